import Derived.Test.YtolabfafgbmdbaaGreatDoorQ4
import Derived.Test.YtolabfafgbmdbaaGreatDoorQ0
import Derived.ChangeKeysEq
import Derived.Deep.QuietTactic
import Derived.Lib.Zigzag
set_option maxRecDepth 100000
set_option maxHeartbeats 16000000
namespace Go.Proofs.YtolabfafgbmdbaaGreatDoor
open Go.ChangeShapes Go.WideShapes Go.ChangeAt Go.RowKit
open Gen
inductive FewInv (t:Thr) (g:Nat) (fa la:Option Addr) (fn fc ln lc m9 m12:Nat) (a0:Act) (w0:World) (listed:Array Bool) (act':Act) (w':World):Prop
 | mk (p3 p4 p5 p6 p7 p8 p9 p10 p11 p12 p13 p14 p15 p16 p17 p18:Value) (x9:Value) (x12:Value) (ea:act'=((((((((((((((((a0.put (some 3) p3).put (some 4) p4).put (some 5) p5).put (some 6) p6).put (some 7) p7).put (some 8) p8).put (some 9) p9).put (some 10) p10).put (some 11) p11).put (some 12) p12).put (some 13) p13).put (some 14) p14).put (some 15) p15).put (some 16) p16).put (some 17) p17).put (some 18) p18)) (hb:Below g w0 w'∧a_p w' g [.int .i64 t.pc,.int .i64 (t.r 0),.int .i64 (t.r 1),.int .i64 (t.r 2),.int .i64 (t.r 3),.int .i64 (t.r 4),.int .i64 (t.r 5),.int .i64 (t.r 6),.int .i64 (t.r 7),x9,.int .i64 t.st,.int .i64 t.ft,x12]∧a_p w' (g+1) thN∧(¬ Up listed 15→x9=.slice fa fn fc)∧(¬ Up listed 17→x12=.slice la ln lc)) (hf0:Up listed 0→p3=.pointer (some ⟨g,9,none⟩)) (hf1:Up listed 1→p4=.slice fa fn fc) (hf2:Up listed 2→p5=.pointer (some ⟨g,9,none⟩)) (hf3:Up listed 3→p6=.slice fa fn fc) (hf4:Up listed 4→p7=.int .i64 fn) (hf5:Up listed 5→p8=.int .i64 m9) (hf6:Up listed 6→p9=.slice fa m9 fc) (hf7:Up listed 7→p10=.pointer (some ⟨g,12,none⟩)) (hf8:Up listed 8→p11=.slice la ln lc) (hf9:Up listed 9→p12=.pointer (some ⟨g,12,none⟩)) (hf10:Up listed 10→p13=.slice la ln lc) (hf11:Up listed 11→p14=.int .i64 ln) (hf12:Up listed 12→p15=.int .i64 m12) (hf13:Up listed 13→p16=.slice la m12 lc) (hf14:Up listed 14→p17=.pointer (some ⟨g,9,none⟩)) (hS:Up listed 15→Up listed 1∧Up listed 3∧x9=.slice fa m9 fc) (hf16:Up listed 16→p18=.pointer (some ⟨g,12,none⟩)) (hU:Up listed 17→Up listed 8∧Up listed 10∧x12=.slice la m12 lc):FewInv t g fa la fn fc ln lc m9 m12 a0 w0 listed act' w'
end Go.Proofs.YtolabfafgbmdbaaGreatDoor
namespace Go.Proofs.YtolabfafgbmdbaaGreatDoor
open Go.ChangeShapes Go.WideShapes Go.ChangeAt Go.RowKit
open Gen
open Lib (hid)
theorem p_o {t:Thr} {fn ln:Nat} (h1:t.fs.length=fn) (h2:t.lf.length=ln) (h:¬ (0≤t.pc∧t.pc≤1000∧fn≤6∧0≤t.st∧t.st≤2∧ln≤8)):a_Q t=false:=by
 cases hr:a_Q t with
 | false=>rfl
 | true =>
  have hl:=d_m hr;have hp:=b_A hr;simp only [a_Q,d_8,Bool.and_eq_true,decide_eq_true_eq] at hr
  omega
theorem i_X (t:Thr) (fa la:Option Addr) (fn fc ln lc:Nat) (w:World) (F:ThF w fa fn fc la ln lc t) :
  Calls Tryz.prog 41 #[.agg (thC t fa fn fc la ln lc).toArray] w (a_1 (a_Q t) w):=by
 obtain ⟨W,hW⟩:=nm (w.alloc (Obj.cells (thC t fa fn fc la ln lc).toArray 46));have X:=N110;have hB:=N2;have h1:t.fs.length=fn:=F.fs.1;have h2:t.lf.length=ln:=F.lf.1;replace F:=c_0 hB F;have ⟨HF,HX,HB,HW,H1,H2⟩:=hh6 F X hB hW h1 h2;clear hW X hB F
 by_cases hA:0≤t.pc∧t.pc≤1000∧fn≤6∧0≤t.st∧t.st≤2∧ln≤8
 ·clear h1 h2;obtain ⟨a1,a2,a3,a4,a5,a6⟩:=hA;have i1:¬ t.pc < 0:=by omega
  have i2:¬ 1000 < t.pc:=by omega
  have i3:¬ (6:Int) < fn:=by omega
  have i4:¬ t.st < 0:=by omega
  have i5:¬ 2 < t.st:=by omega
  have i6:¬ (8:Int) < ln:=by omega
  have HA:=hid (And.intro a1 (And.intro a2 (And.intro a4 a5)));clear a1 a2 a4 a5
  go_enter Tryz.func41,Tryz.ntmps41
  go_upto_region 1 with fail
  rw [←HW.out];have k0:=(HX.out 0 _ rfl).1;have k9:=(HX.out 9 _ rfl).1;have k10:=(HX.out 10 _ rfl).1;have k12:=(HX.out 12 _ rfl).1
  go_wp2
  go_loopw [40] (fun i wr=>∃ k:Nat,k≤fn∧i=.int .i64 k∧Hid (k_l t.fs k)∧Below W.heap.size W wr) (fun i _=>fn - (intOf i).toNat)
  case atStart=>exact ⟨0,by omega,rfl,(show k_l t.fs 0 from fun i f hi=>by omega),Below.refl _ _⟩
  case round =>
   obtain ⟨k,hk,rfl,hf,hb⟩:=hrel;obtain ⟨wo,hwo⟩:∃ wo:World,wo=wr:=⟨_,rfl⟩;subst hwo
   by_cases hlt:k < fn
   ·obtain ⟨b,o,x0,x1,x2,x3,x4,rfl,hx,g0,g1,g2,g3,g4⟩:=m_O (e_J hb HF.out.fs) hlt;have ⟨HX0,HB0⟩:=hh2 hx hb;have j1:(0:Int)≤k:=by omega
    have j2:(k:Int) < fn:=by omega
    clear hx hb k0 k9 k10 k12
    by_cases h0:0≤x0∧x0≤1000
    ·have HS:=hid (h_9 hf.out HX0.out h0);have q1:¬ x0 < 0:=by omega
     have q2:¬ 1000 < x0:=by omega
     clear h0
     go_wp2
     go_roundw
     case rel=>exact ⟨k+1,by omega,by go_num,HS.out,HB0.out.alloc HB0.out.size _⟩
     case measure=>simp [intOf];omega
    ·have HS:=hid (show a_Q t=false by rw [a_Q,i_h HX0.out h0,Bool.and_false];rfl);have HBB:=hid ((a_a HB.out HB0.out).alloc (a_a HB.out HB0.out).size (Obj.cells #[.int .i64 x0,.int .i64 x1,.int .i64 x2,.int .i64 x3,.int .i64 x4] 105));clear HB HB0
     go_wp2
     all_goals first
      | (exfalso;omega)
      | (go_ret;exact a_i HS.out HBB.out)
   ·obtain rfl:k=fn:=by omega
    have HFS:=hid (h_s H1.out a3 hf.out);have XB:=a_h hb HX.out;have HL:=hid (e_J hb HF.out.lf);have HBB:=hid (a_a HB.out hb);clear hb k0 k9 k10 k12;have k10:=(XB 10 _ rfl).1;have k11:=(XB 11 _ rfl).1;have k12:=(XB 12 _ rfl).1;clear XB
    go_wp2
    go_loop [56] (fun i=>∃ m:Nat,m≤ln∧i=.int .i64 m∧Hid (s_k t.lf m)) (fun i=>ln - (intOf i).toNat)
    case atStart=>exact ⟨0,by omega,rfl,(show s_k t.lf 0 from fun i f hi=>by omega)⟩
    case round =>
     obtain ⟨m,hm,rfl,hg⟩:=hrel
     by_cases hlt2:m < ln
     ·obtain ⟨b,o,x0,rfl,hx,g0⟩:=h_e HL.out hlt2;have HX0:=hid hx;have j1:(0:Int)≤m:=by omega
      have j2:(m:Int) < ln:=by omega
      clear hx
      by_cases h0:0≤x0∧x0≤8
      ·have HS:=hid (j_B hg.out HX0.out h0);have q1:¬ x0 < 0:=by omega
       have q2:¬ 8 < x0:=by omega
       clear h0
       go_wp2
       go_round
       case rel=>exact ⟨m+1,by omega,by go_num,HS.out⟩
       case measure=>simp [intOf];omega
      ·have HS:=hid (show a_Q t=false by rw [a_Q,i_i HX0.out h0,Bool.and_false])
       go_wp2
       all_goals first
        | (exfalso;omega)
        | (go_ret;exact a_i HS.out HBB.out)
     ·obtain rfl:m=ln:=by omega
      have HS:=hid (show a_Q t=d_8 t.st t.ft by
       have ha:=HA.out;rw [a_Q,HFS.out,h_t H2.out a6 hg.out,decide_eq_true (And.intro ha.1 ha.2.1),Bool.true_and,Bool.true_and,Bool.and_true])
      clear hg hlt2
      go_wp2
      all_goals
       go_ret
       refine a_i (HS.out.trans ?_) HBB.out;have ha:=HA.out
       try simp only [beq_iff_eq,beq_eq_false_iff_ne] at *
       rw [Bool.eq_iff_iff];simp [d_8]
       try omega
 ·have HS:=hid (p_o h1 h2 hA);clear h1 h2
  go_enter Tryz.func41,Tryz.ntmps41
  go_upto_region 1 with fail
  rw [←HW.out];have k0:=(HX.out 0 _ rfl).1;have k9:=(HX.out 9 _ rfl).1;have k10:=(HX.out 10 _ rfl).1;have k12:=(HX.out 12 _ rfl).1
  go_wp2
  all_goals first
   | (exfalso;omega)
   | (go_ret;exact a_i HS.out HB.out)
theorem Tryz.plainI3:Tryz.prog.plainKey 3=true:=by kernel_rfl
theorem Tryz.cellsI3:Tryz.prog.cellsOf 3=1:=by kernel_rfl
theorem g_z (d:Nat) (xs ys:Array Value) (f g:Nat→Int) (w:World):∀ (is:List Nat),(∀ i,i∈is→xs[i]?=some (.int .i64 (f i))∧ys[i]?=some (.int .i64 (g i)))→(Op.eqItems (d+1) 3 (Tryz.prog.cellsOf 3) xs ys is).run Tryz.prog w=.ok (is.all (fun i=>f i==g i)) w
 | [],_=>by simp [Op.eqItems]
 | i::is,h=>by
  have hi:=h i (by simp);have ih:=g_z d xs ys f g w is (fun j hj=>h j (by simp [hj]));rw [Tryz.cellsI3] at ih ⊢;have p1:=run_part_plain (P:=Tryz.prog) w Tryz.plainI3 (show xs[i*1]?=some (.int .i64 (f i)) by rw [Nat.mul_one];exact hi.1);have p2:=run_part_plain (P:=Tryz.prog) w Tryz.plainI3 (show ys[i*1]?=some (.int .i64 (g i)) by rw [Nat.mul_one];exact hi.2)
  have p3:(Op.equalIn (d+1) 3 (.int .i64 (f i)) (.int .i64 (g i))).run Tryz.prog w=.ok (f i==g i) w:=by
   simp [Op.equalIn,run_underlying Tryz.underlying3]
  simp only [Op.eqItems,Sem.run_bind,p1,p2,p3,Result.andThen_ok,List.all_cons]
  cases f i==g i
  ·simp
  ·simpa using ih
theorem r_1 (d n:Nat) {t:TypeId} (xs ys:Array Value) (f g:Nat→Int) (w:World) (ht:Tryz.prog.underlying t=some (.array n 3)) (h:∀ i,i < n→xs[i]?=some (.int .i64 (f i))∧ys[i]?=some (.int .i64 (g i))) :
  (Op.equalIn (d+2) t (.agg xs) (.agg ys)).run Tryz.prog w=.ok ((List.range n).all (fun i=>f i==g i)) w:=by
 obtain ⟨i0,hi,-⟩:=info_parts Tryz.infoI3;rw [run_equalIn_array w (d+1) xs ys ht hi];exact g_z d xs ys f g w _ (fun i hi=>h i (by simpa using hi))
def eqR (r r':Nat→Int):Bool:=(List.range 8).all (fun i=>r i==r' i)
theorem s_A (r r':Nat→Int) (w:World):(Op.equalIn 10000 43 (.agg (rgC r).toArray) (.agg (rgC r').toArray)).run Tryz.prog w=.ok (eqR r r') w:=by
 exact r_1 9998 8 (t:=43) (rgC r).toArray (rgC r').toArray r r' w Tryz.underlying43 (by
  intro i hi
  match i,hi with
  | 0,_=>exact ⟨rfl,rfl⟩
  | 1,_=>exact ⟨rfl,rfl⟩
  | 2,_=>exact ⟨rfl,rfl⟩
  | 3,_=>exact ⟨rfl,rfl⟩
  | 4,_=>exact ⟨rfl,rfl⟩
  | 5,_=>exact ⟨rfl,rfl⟩
  | 6,_=>exact ⟨rfl,rfl⟩
  | 7,_=>exact ⟨rfl,rfl⟩)
theorem o_f (x1 x2 x3 x4 y1 y2 y3 y4:Int) (w:World):(Op.equalIn 9999 99 (.agg #[.int .i64 x1,.int .i64 x2,.int .i64 x3,.int .i64 x4]) (.agg #[.int .i64 y1,.int .i64 y2,.int .i64 y3,.int .i64 y4])).run Tryz.prog w=.ok (decide ((x1,x2,x3,x4)=(y1,y2,y3,y4))) w:=by
 have e1:=r_1 9997 4 (t:=99) #[.int .i64 x1,.int .i64 x2,.int .i64 x3,.int .i64 x4] #[.int .i64 y1,.int .i64 y2,.int .i64 y3,.int .i64 y4] (fun i=>if i=0 then x1 else if i=1 then x2 else if i=2 then x3 else x4) (fun i=>if i=0 then y1 else if i=1 then y2 else if i=2 then y3 else y4) w Tryz.underlying99 (by
  intro i hi
  match i,hi with
  | 0,_=>exact ⟨rfl,rfl⟩
  | 1,_=>exact ⟨rfl,rfl⟩
  | 2,_=>exact ⟨rfl,rfl⟩
  | 3,_=>exact ⟨rfl,rfl⟩)
 refine e1.trans ?_
 congr 1
 rw [Bool.eq_iff_iff];simp [List.range,List.range.loop]
theorem q_z (x0 x1 x2 x3 x4 y0 y1 y2 y3 y4:Int) (w:World):(Op.equalIn 10000 105 (.agg #[.int .i64 x0,.int .i64 x1,.int .i64 x2,.int .i64 x3,.int .i64 x4]) (.agg #[.int .i64 y0,.int .i64 y1,.int .i64 y2,.int .i64 y3,.int .i64 y4])).run Tryz.prog w=.ok (decide ((x0,x1,x2,x3,x4)=(y0,y1,y2,y3,y4))) w:=by
 have e1:=o_f x1 x2 x3 x4 y1 y2 y3 y4 w
 by_cases h0:x0=y0
 ·subst h0;obtain ⟨b,hb⟩:∃ b,decide ((x1,x2,x3,x4)=(y1,y2,y3,y4))=b:=⟨_,rfl⟩;rw [hb] at e1;have h2:decide ((x0,x1,x2,x3,x4)=(x0,y1,y2,y3,y4))=b:=by rw [←hb,Bool.eq_iff_iff];simp
  rw [h2]
  cases b <;> simp [go_sem,e1]
 ·have hb:(x0==y0)=false:=by simpa using h0
  simp [go_sem,hb,h0]
theorem b_v {B:Nat} {a w:World} (h:Below B a w) (q:Nat):Below B a (w.drewN q):=⟨h.os,h.tape,h.output,h.size,h.block⟩
def m_w {α:Type} (xs ys:List α) (k:Nat):Prop:=∀ i,i < k→xs[i]?=ys[i]?
theorem h_X {α:Type} (xs ys:List α):m_w xs ys 0:=fun i hi=>by omega
theorem h_W {α:Type} {xs ys:List α} {k:Nat} {x:α} (h:m_w xs ys k) (hx:xs[k]?=some x) (hy:ys[k]?=some x):m_w xs ys (k+1):=by
 intro i hi
 by_cases e:i=k
 ·subst e;rw [hx,hy]
 ·exact h i (by omega)
theorem l_I {α:Type} {xs ys:List α} {n:Nat} (hx:xs.length=n) (hy:ys.length=n) (h:m_w xs ys n):xs=ys:=by
 apply List.ext_getElem?
 intro i
 by_cases hi:i < n
 ·exact h i hi
 ·rw [List.getElem?_eq_none (by omega),List.getElem?_eq_none (by omega)]
theorem l_J {α:Type} {xs ys:List α} {k:Nat} {x y:α} (hx:xs[k]?=some x) (hy:ys[k]?=some y) (h:x≠y):xs≠ys:=by
 intro e;subst e;rw [hx] at hy;exact h (by injection hy)
theorem n_U {α:Type} {xs ys:List α} {n m:Nat} (hx:xs.length=n) (hy:ys.length=m) (h:m≠n):xs≠ys:=by
 intro e;subst e;omega
theorem n_G (a b:Option Addr) (n c m d:Nat) (xs ys:List Int) (w:World) (S1:Vs repInt Any w a n xs) (S2:Vs repInt Any w b m ys) (hn:n≤9223372036854775807) :
  Calls Tryz.prog 63 #[.slice a n c,.slice b m d] w (a_1 (decide (xs=ys)) w):=by
 have Hx:=hid S1.1;have Hy:=hid S2.1
 by_cases hl:m=n
 ·subst hl;have q:((m:Int) != m)=false:=by simp
  go_enter Tryz.func63,Tryz.ntmps63
  go_wp2
  go_loopw [13] (fun s wr=>∃ k:Nat,k≤m∧s=.int .i64 k∧Hid (m_w xs ys k)∧Below w.heap.size w wr) (fun s _=>m - (intOf s).toNat)
  case atStart=>exact ⟨0,by omega,rfl,h_X _ _,Below.refl _ _⟩
  case round =>
   obtain ⟨k,hk,rfl,hs,hb⟩:=hrel
   by_cases hlt:k < m
   ·obtain ⟨b1,o1,x,rfl,hx,g1⟩:=h_e (e_J hb S1) hlt;obtain ⟨b2,o2,y,rfl,hy,g2⟩:=h_e (e_J hb S2) hlt;have ⟨HX,HY,HB⟩:=hh3 hx hy hb;have i1:(0:Int)≤k:=by omega
    have i2:(k:Int) < m:=by omega
    clear hx hy hb
    by_cases e:x=y
    ·subst e;have HS:=hid (h_W hs.out HX.out HY.out);have q2:(x != x)=false:=by simp
     go_wp2
     go_quiet (fail)
     go_wp2
     go_roundw
     case rel=>exact ⟨k+1,by omega,by go_num,HS.out,b_v HB.out _⟩
     case measure=>simp [intOf];omega
    ·have HF:=hid (decide_eq_false (l_J HX.out HY.out e));have q2:(x != y)=true:=by simpa using e
     clear e
     go_wp2
     go_quiet (fail)
     go_wp2
     go_ret
     exact a_i HF.out (b_v HB.out _)
   ·obtain rfl:k=m:=by omega
    have HF:=hid (decide_eq_true (l_I Hx.out Hy.out hs.out));have HB:=hid hb;clear hb
    go_wp2
    go_ret
    exact a_i HF.out HB.out
 ·have HF:=hid (decide_eq_false (n_U Hx.out Hy.out hl));have q:=N256;clear hl
  go_enter Tryz.func63,Tryz.ntmps63
  go_wp2
  go_ret
  exact a_i HF.out (Below.refl _ _)
def l_k (t s:Thr):Bool:=decide (t.pc=s.pc)&&eqR t.r s.r&&decide (t.st=s.st)&&decide (t.ft=s.ft)&&decide (t.fs=s.fs)&&decide (t.lf=s.lf)
theorem sameT_iff {t s:Thr}:l_k t s=true ↔ t.pc=s.pc∧eqR t.r s.r=true∧t.st=s.st∧t.ft=s.ft∧t.fs=s.fs∧t.lf=s.lf:=by
  simp only [l_k,Bool.and_eq_true,decide_eq_true_eq,and_assoc]
theorem j_T (t s:Thr) (fa la:Option Addr) (fn fc ln lc:Nat) (fa' la':Option Addr) (fn' fc' ln' lc':Nat) (w:World) (F:ThF w fa fn fc la ln lc t) (G:ThF w fa' fn' fc' la' ln' lc' s) (hn:fn≤1000000) :
    Calls Tryz.prog 25 #[.agg (thC t fa fn fc la ln lc).toArray,.agg (thC s fa' fn' fc' la' ln' lc').toArray] w (a_1 (l_k t s) w):=by
  obtain ⟨W,hW⟩:=nm ((w.alloc (Obj.cells (thC t fa fn fc la ln lc).toArray 46)).alloc (Obj.cells (thC s fa' fn' fc' la' ln' lc').toArray 46));have X:=N37;have Y:a_p W (w.heap.size+1) (thC s fa' fn' fc' la' ln' lc'):=by rw [hW];exact a_e (thC s fa' fn' fc' la' ln' lc') _ (by simp)
  have hB:=N2;have hl:ln≤9223372036854775807:=Nat.le_trans F.lcap.1 F.lcap.2.1;replace F:=c_0 hB F;replace G:=c_0 hB G;have ⟨HF,HG,HX,HY,HB,HW⟩:=hh6 F G X Y hB hW;clear hW X Y hB F G
  go_enter Tryz.func25,Tryz.ntmps25
  go_upto_region 1 with fail
  rw [←HW.out];have k0:=(HX.out 0 _ rfl).1;have k1:=(HX.out 1 _ rfl).1;have k2:=(HX.out 2 _ rfl).1;have k3:=(HX.out 3 _ rfl).1;have k4:=(HX.out 4 _ rfl).1;have k5:=(HX.out 5 _ rfl).1;have k6:=(HX.out 6 _ rfl).1;have k7:=(HX.out 7 _ rfl).1;have k8:=(HX.out 8 _ rfl).1;have k9:=(HX.out 9 _ rfl).1;have k10:=(HX.out 10 _ rfl).1;have k11:=(HX.out 11 _ rfl).1;have k12:=(HX.out 12 _ rfl).1;have m0:=(HY.out 0 _ rfl).1;have m1:=(HY.out 1 _ rfl).1;have m2:=(HY.out 2 _ rfl).1;have m3:=(HY.out 3 _ rfl).1;have m4:=(HY.out 4 _ rfl).1;have m5:=(HY.out 5 _ rfl).1;have m6:=(HY.out 6 _ rfl).1;have m7:=(HY.out 7 _ rfl).1;have m8:=(HY.out 8 _ rfl).1;have m9:=(HY.out 9 _ rfl).1;have m10:=(HY.out 10 _ rfl).1;have m11:=(HY.out 11 _ rfl).1;have m12:=(HY.out 12 _ rfl).1;have q8:=s_A t.r s.r W;obtain ⟨er,her⟩:=mn (eqR t.r s.r);rw [her] at q8;have HER:=hid her;clear her
  have HSE:Hid (t.pc=s.pc→er=true→t.st=s.st→t.ft=s.ft→l_k t s=(decide (t.fs=s.fs)&&decide (t.lf=s.lf))):=by
    intro h1 h2 h3 h4;rw [l_k,h1,h3,h4,HER.out,h2];simp
  by_cases hff:fn=fn'
  · subst hff
    have q:((fn:Int) != fn)=false:=by simp
    go_wp2
    any_goals first
      | (go_ret
         refine a_i (Bool.eq_false_iff.2 fun h=>?_) HB.out;obtain ⟨a1,a2,a3,a4,a5,a6⟩:=sameT_iff.1 h;rw [HER.out] at a2
         contradiction)
      | skip
    rename_i h1 h2 h3 h4 _ _
    have HSS:=hid (HSE.out h1 h2 h3 h4);clear HSE h1 h2 h3 h4 q8
    go_loopw [44] (fun i wr=>∃ k:Nat,k≤fn∧i=.int .i64 k∧Hid (m_w t.fs s.fs k)∧Below W.heap.size W wr) (fun i _=>fn - (intOf i).toNat)
    case atStart=>exact ⟨0,by omega,rfl,h_X _ _,Below.refl _ _⟩
    case round =>
      obtain ⟨k,hk,rfl,hs,hb⟩:=hrel;have X1:=a_h hb HX.out;have Y1:=a_h hb HY.out;clear k0 k1 k2 k3 k4 k5 k6 k7 k8 k9 k10 k11 k12 m0 m1 m2 m3 m4 m5 m6 m7 m8 m9 m10 m11 m12;have k9:=(X1 9 _ rfl).1;have m9:=(Y1 9 _ rfl).1;have k12:=(X1 12 _ rfl).1;have m12:=(Y1 12 _ rfl).1;clear X1 Y1
      by_cases hlt:k < fn
      · obtain ⟨b1,o1,x0,x1,x2,x3,x4,rfl,hx,g0,g1,g2,g3,g4⟩:=m_O (e_J hb HF.out.fs) hlt
        obtain ⟨b2,o2,y0,y1,y2,y3,y4,rfl,hy,d0,d1,d2,d3,d4⟩:=m_O (e_J hb HG.out.fs) hlt;have ⟨HX0,HY0,HB0⟩:=hh3 hx hy hb;have j1:(0:Int)≤k:=by omega
        have j2:(k:Int) < fn:=by omega
        clear hx hy hb k12 m12;have qe:=fun w=>q_z x0 x1 x2 x3 x4 y0 y1 y2 y3 y4 w
        obtain ⟨eb,heb⟩:∃ eb,decide ((x0,x1,x2,x3,x4)=(y0,y1,y2,y3,y4))=eb:=⟨_,rfl⟩;rw [heb] at qe;have HEB:=hid heb;clear heb
        cases eb with
        | true =>
          have HS:=hid (h_W hs.out HX0.out (by rw [of_decide_eq_true HEB.out];exact HY0.out))
          go_wp2
          go_quiet (fail)
          go_wp2
          go_roundw
          case rel=>exact ⟨k+1,by omega,by go_num,HS.out,b_v HB0.out _⟩
          case measure=>simp [intOf];omega
        | false =>
          have HS:=hid (l_J HX0.out HY0.out (of_decide_eq_false HEB.out))
          go_wp2
          go_quiet (fail)
          go_wp2
          go_ret
          exact a_i (by rw [HSS.out,decide_eq_false HS.out];rfl) (b_v (a_a HB.out HB0.out) _)
      · obtain rfl:k=fn:=by omega
        have HS:=hid (l_I HF.out.fs.1 HG.out.fs.1 hs.out);have L1:=e_J hb HF.out.lf;have L2:=e_J hb HG.out.lf;have HB1:=hid (a_a HB.out hb);clear hb k9 m9
        go_wp2_with fail
        refine (n_G la la' ln lc ln' lc' t.lf s.lf _ L1 L2 hl).mono ?_;rintro e w2 ⟨rfl,hb2⟩;have HB2:=hid (a_a HB1.out hb2);obtain ⟨lb,hlb⟩:=mn (decide (t.lf=s.lf));rw [hlb];have HLB:=hid hlb;clear hlb hb2
        go_wp2
        go_ret
        exact a_i (by rw [HSS.out,decide_eq_true HS.out,HLB.out];rfl) HB2.out
  · have HNO:Hid (l_k t s=false):=Bool.eq_false_iff.2 fun h=>hff (by rw [←HF.out.fs.1,←HG.out.fs.1,(sameT_iff.1 h).2.2.2.2.1])
    have q:((fn:Int) != fn')=true:=by simp;omega
    clear HSE
    go_wp2
    all_goals
      go_ret
      exact a_i HNO.out HB.out
end Go.Proofs.YtolabfafgbmdbaaGreatDoor
namespace Go.Proofs.YtolabfafgbmdbaaGreatDoor
open Go.ChangeShapes Go.WideShapes Go.ChangeAt Go.RowKit
open Gen
theorem q_s {t:Thr} {tg:Int} (h:d_B t tg=0):a_Q t=true∧t.pc≠1000∧0≤tg∧tg≤1000∧t.fs.length≠6∧f_i t tg=⟨tg,t.r,t.fs++[(t.pc+1,t.r 4,t.r 5,t.r 6,t.r 7)],t.st,t.ft,t.lf⟩:=by
 have h1:f_i t tg=⟨tg,t.r,t.fs++[(t.pc+1,t.r 4,t.r 5,t.r 6,t.r 7)],t.st,t.ft,t.lf⟩:=by rw [f_i,if_pos h]
 rw [d_B] at h
 by_cases hc:a_Q t=true∧t.pc≠1000∧0≤tg∧tg≤1000
 ·rw [if_pos hc] at h;refine ⟨hc.1,hc.2.1,hc.2.2.1,hc.2.2.2,?_,h1⟩;intro e;rw [if_pos e] at h
  omega
 ·rw [if_neg hc] at h;omega
theorem l_h {fs:List Fr} {f:Fr} (h:c_q fs=true) (hl:fs.length≠6) (hf:0≤f.1∧f.1≤1000):c_q (fs++[f])=true:=by
 simp only [c_q,Bool.and_eq_true,decide_eq_true_eq,List.all_eq_true] at h ⊢;refine ⟨by simp only [List.length_append,List.length_cons,List.length_nil];omega,fun x hx=>?_⟩
 rcases List.mem_append.1 hx with hx | hx
 ·exact h.2 x hx
 ·simp at hx;subst hx;exact hf
theorem n_i {t:Thr} {pe:Int} {r:Nat→Int} {f:Fr} (h:a_Q t=true) (hl:t.fs.length≠6) (hp:0≤pe∧pe≤1000) (hf:0≤f.1∧f.1≤1000):a_Q ⟨pe,r,t.fs++[f],t.st,t.ft,t.lf⟩=true:=by
 simp only [a_Q,Bool.and_eq_true,decide_eq_true_eq] at h ⊢;exact ⟨⟨⟨hp,l_h h.1.1.2 hl hf⟩,h.1.2⟩,h.2⟩
abbrev In4:=Int×Int×Int×Int
def opd (i:In4) (k:Nat):Int:=if k=0 then i.2.1 else if k=1 then i.2.2.1 else i.2.2.2
def i_c (k:Nat):List UInt8:=[[],[114,110],[114,114],[114,114,110],[114,114,110],[114,114,114],[114,114,114],[114,114,114],[114,114,114],[114,114,114],[116],[114,116],[114,116],[116],[],[114]].getD k []
def n_C (s:UInt8) (v:Int):Bool:=if s=114 then decide (0≤v∧v≤7) else if s=110 then true else decide (0≤v∧v≤1000)
def g_F (i:In4) (s:List UInt8):Bool:=(List.range s.length).all fun k=>n_C (s.getD k 0) (opd i k)
def c_7 (i:In4):Bool:=g_F i (i_c i.1.toNat)
def b_Y (r:Nat→Int) (a v:Int):Nat→Int:=fun k=>if (k:Int)=a then v else r k
def rgt (t:Thr) (a:Int):Int:=t.r a.toNat
def goT (t:Thr) (pc:Int):Thr:=⟨pc,t.r,t.fs,t.st,t.ft,t.lf⟩
def c_4 (t:Thr) (a v:Int):Thr:=⟨t.pc+1,b_Y t.r a v,t.fs,t.st,t.ft,t.lf⟩
def brT (t:Thr) (b:Bool) (pc:Int):Thr:=if b=true then goT t pc else goT t (t.pc+1)
def opV (t:Thr) (self:Int) (i:In4):Int:=
 if i.1=1 then i.2.2.1 else if i.1=2 then rgt t i.2.2.1 else if i.1=3 then wrap64 (rgt t i.2.2.1+i.2.2.2) else if i.1=4 then bits .and .i64 (rgt t i.2.2.1) i.2.2.2 else
 if i.1=5 then wrap64 (rgt t i.2.2.1+rgt t i.2.2.2) else if i.1=6 then wrap64 (rgt t i.2.2.1 - rgt t i.2.2.2) else if i.1=7 then bits .and .i64 (rgt t i.2.2.1) (rgt t i.2.2.2) else
 if i.1=8 then bits .xor .i64 (rgt t i.2.2.1) (rgt t i.2.2.2) else if i.1=9 then (if rgt t i.2.2.1 < rgt t i.2.2.2 then 1 else 0) else self
def doT (t:Thr) (self:Int) (i:In4):Thr:=
 if i.1=10 then goT t i.2.1 else if i.1=11 then brT t (rgt t i.2.1==0) i.2.2.1 else if i.1=12 then brT t (rgt t i.2.1 != 0) i.2.2.1 else
 if i.1=13 then f_i t i.2.1 else if i.1=14 then f_7 t else c_4 t i.2.1 (opV t self i)
def doE (t:Thr) (i:In4):Int:=if i.1=13 then d_B t i.2.1 else if i.1=14 then e_l t else 0
def d_5 (t:Thr):Bool:=decide (t.st=0)&&decide (t.lf.length=0)
def f_P (t:Thr) (self:Int):Bool:=a_Q t&&decide (0≤self∧self≤7)
def apE (t:Thr) (self:Int) (i:In4):Int:=
 if f_P t self=false∨t.pc=1000 then 1 else if d_5 t=false then 9 else if i.1 < 1∨15 < i.1 then 10 else if c_7 i=false then 3 else doE t i
def apT (t:Thr) (self:Int) (i:In4):Thr:=if apE t self i=0 then doT t self i else d_J
theorem h_Z {t:Thr} {self:Int} {i:In4} (h:apE t self i≠0):apT t self i=d_J:=by rw [apT,if_neg h]
theorem a_6 {a:Int} (h:0≤a∧a≤7):∃ j:Nat,a=j∧j < 8:=⟨a.toNat,by omega,by omega⟩
theorem m_f (r:Nat→Int) (j:Nat) (v:Int) (k:Nat):b_Y r (j:Int) v k=if k=j then v else r k:=by
 unfold b_Y
 by_cases h:k=j
 ·subst h;simp
 ·rw [if_neg h,if_neg (by omega)]
theorem c_M (r:Nat→Int) (j:Nat) (hj:j < 8) (p:Value) (x:List Value):(p::(.int .i64 (r 0))::(.int .i64 (r 1))::(.int .i64 (r 2))::(.int .i64 (r 3))::(.int .i64 (r 4))::(.int .i64 (r 5))::(.int .i64 (r 6))::(.int .i64 (r 7))::x)[1+j]?=some (.int .i64 (r j)):=by
 exact J45
theorem l_l (r:Nat→Int) (j:Nat) (hj:j < 8) (v:Int) (p:Value) (x:List Value):(p::(.int .i64 (r 0))::(.int .i64 (r 1))::(.int .i64 (r 2))::(.int .i64 (r 3))::(.int .i64 (r 4))::(.int .i64 (r 5))::(.int .i64 (r 6))::(.int .i64 (r 7))::x).set (1+j) (.int .i64 v) =
  (p::(.int .i64 (b_Y r j v 0))::(.int .i64 (b_Y r j v 1))::(.int .i64 (b_Y r j v 2))::(.int .i64 (b_Y r j v 3))::(.int .i64 (b_Y r j v 4))::(.int .i64 (b_Y r j v 5))::(.int .i64 (b_Y r j v 6))::(.int .i64 (b_Y r j v 7))::x):=by
 simp only [m_f];exact J45
theorem r_s (r:Nat→Int) (j:Nat) (hj:j < 8) (v:Int) (x:List Value):((.int .i64 (r 0))::(.int .i64 (r 1))::(.int .i64 (r 2))::(.int .i64 (r 3))::(.int .i64 (r 4))::(.int .i64 (r 5))::(.int .i64 (r 6))::(.int .i64 (r 7))::x).set j (.int .i64 v) =
  ((.int .i64 (b_Y r j v 0))::(.int .i64 (b_Y r j v 1))::(.int .i64 (b_Y r j v 2))::(.int .i64 (b_Y r j v 3))::(.int .i64 (b_Y r j v 4))::(.int .i64 (b_Y r j v 5))::(.int .i64 (b_Y r j v 6))::(.int .i64 (b_Y r j v 7))::x):=by
 simp only [m_f];exact J45
theorem e_9 {t:Thr} {pc:Int} {r:Nat→Int} (h:a_Q t=true) (hp:0≤pc∧pc≤1000):a_Q ⟨pc,r,t.fs,t.st,t.ft,t.lf⟩=true:=by
 simp only [a_Q,Bool.and_eq_true,decide_eq_true_eq] at h ⊢;exact ⟨⟨⟨hp,h.1.1.2⟩,h.1.2⟩,h.2⟩
theorem s_B {i:In4} {s:List UInt8} (h:g_F i s=true) {k:Nat} (hk:k < s.length):n_C (s.getD k 0) (opd i k)=true:=by
 simp only [g_F,List.all_eq_true,List.mem_range] at h;exact h k hk
theorem b_1 {i:In4} (h:c_7 i=true) (h1:1≤i.1) (h2:i.1≤15):(i.1≠10∧i.1≠13∧i.1≠14→0≤i.2.1∧i.2.1≤7)∧((i.1=10∨i.1=13)→0≤i.2.1∧i.2.1≤1000) ∧
  ((2≤i.1∧i.1≤9)→0≤i.2.2.1∧i.2.2.1≤7)∧((i.1=11∨i.1=12)→0≤i.2.2.1∧i.2.2.1≤1000)∧((5≤i.1∧i.1≤9)→0≤i.2.2.2∧i.2.2.2≤7):=by
 obtain ⟨o,A,B,C⟩:=i;simp only at h1 h2 ⊢;have hc:o=1∨o=2∨o=3∨o=4∨o=5∨o=6∨o=7∨o=8∨o=9∨o=10∨o=11∨o=12∨o=13∨o=14∨o=15:=by omega
 rcases hc with rfl | rfl | rfl | rfl | rfl | rfl | rfl | rfl | rfl | rfl | rfl | rfl | rfl | rfl | rfl <;>
  simp [c_7,g_F,i_c,n_C,opd,List.range_succ] at h ⊢ <;> omega
theorem r_X {t:Thr} {self:Int} {i:In4} (h:apE t self i=0):a_Q t=true∧(0≤self∧self≤7)∧t.pc≠1000∧t.st=0∧t.lf=[]∧1≤i.1∧i.1≤15∧c_7 i=true∧doE t i=0∧apT t self i=doT t self i:=by
 have h':=h;unfold apE at h
 split at h
 ·omega
 ·rename_i h1
  split at h
  ·omega
  ·rename_i h2
   split at h
   ·omega
   ·rename_i h3
    split at h
    ·omega
    ·rename_i h4
     have e:f_P t self=true:=by cases hm:f_P t self with | true=>rfl | false=>exact absurd (Or.inl hm) h1
     have e2:d_5 t=true:=by simpa using h2
     simp only [f_P,d_5,Bool.and_eq_true,decide_eq_true_eq] at e e2;exact ⟨e.1,e.2,fun hp=>h1 (.inr hp),e2.1,List.eq_nil_of_length_eq_zero e2.2,by omega,by omega,by simpa using h4,h,by rw [apT,if_pos h']⟩
theorem r_n {t:Thr} {self:Int} {i:In4} (h:apE t self i=0):a_Q (apT t self i)=true∧(apT t self i).st=0∧(apT t self i).lf=[]:=by
 obtain ⟨h1,h2,h3,h4,h5,h6,h7,h8,h9,h10⟩:=r_X h;obtain ⟨f1,f2,f3,f4,f5⟩:=b_1 h8 h6 h7;have hp:=b_A h1;rw [h10];unfold doT
 split
 ·exact ⟨e_9 h1 (f2 (.inl (by assumption))),h4,h5⟩
 ·split
  ·unfold brT;split
   ·exact ⟨e_9 h1 (f4 (.inl (by assumption))),h4,h5⟩
   ·exact ⟨e_9 h1 (by omega),h4,h5⟩
  ·split
   ·unfold brT;split
    ·exact ⟨e_9 h1 (f4 (.inr (by assumption))),h4,h5⟩
    ·exact ⟨e_9 h1 (by omega),h4,h5⟩
   ·split
    ·rename_i hq
     have hc:d_B t i.2.1=0:=by rw [doE,if_pos hq] at h9;exact h9
     obtain ⟨c1,c2,c3,c4,c5,c6⟩:=q_s hc;rw [c6];exact ⟨n_i h1 c5 ⟨c3,c4⟩ (by show 0≤t.pc+1∧t.pc+1≤1000;omega),h4,h5⟩
    ·split
     ·rename_i hn hq
      have hc:e_l t=0:=by rw [doE,if_neg hn,if_pos hq] at h9;exact h9
      have hl:t.fs.length≠0:=fun e=>by rw [e_l,if_pos h1,if_pos e] at hc;omega
      have hm:e_G t∈t.fs:=by
       rw [e_G,List.getD_eq_getElem?_getD,List.getElem?_eq_getElem (by omega)];exact List.getElem_mem _
      rw [f_7,if_pos hc];refine ⟨?_,h4,h5⟩;simp only [a_Q,c_q,Bool.and_eq_true,decide_eq_true_eq,List.all_eq_true] at h1 ⊢;refine ⟨⟨⟨h1.1.1.2.2 _ hm,by rw [List.length_take];have:=h1.1.1.2.1;omega,fun f hf=>h1.1.1.2.2 f (List.mem_of_mem_take hf)⟩,h1.1.2⟩,h1.2⟩
     ·exact ⟨e_9 h1 (by omega),h4,h5⟩
end Go.Proofs.YtolabfafgbmdbaaGreatDoor
