import Derived.Test.YtolabfafgbmdbaaGreatDoorR4
import Derived.Test.YtolabfafgbmdbaaGreatDoorR0
import Derived.ChangeKeysEq
import Derived.Deep.QuietTactic
import Derived.Lib.Zigzag
set_option maxRecDepth 100000
set_option maxHeartbeats 16000000
namespace Go.Proofs.YtolabfafgbmdbaaGreatDoor
open Go.ChangeShapes Go.WideShapes Go.ChangeAt Go.RowKit
open Gen
inductive FewInv (t:Thr) (g:Nat) (fa la:Option Addr) (fn fc ln lc m9 m12:Nat) (a0:Act) (w0:World) (listed:Array Bool) (act':Act) (w':World):Prop
 | mk (p3 p4 p5 p6 p7 p8 p9 p10 p11 p12 p13 p14 p15 p16 p17 p18:Value) (x9:Value) (x12:Value) (ea:act'=((((((((((((((((a0.put (some 3) p3).put (some 4) p4).put (some 5) p5).put (some 6) p6).put (some 7) p7).put (some 8) p8).put (some 9) p9).put (some 10) p10).put (some 11) p11).put (some 12) p12).put (some 13) p13).put (some 14) p14).put (some 15) p15).put (some 16) p16).put (some 17) p17).put (some 18) p18)) (hb:Below g w0 w'∧a_p w' g [.int .i64 t.pc,.int .i64 (t.r 0),.int .i64 (t.r 1),.int .i64 (t.r 2),.int .i64 (t.r 3),.int .i64 (t.r 4),.int .i64 (t.r 5),.int .i64 (t.r 6),.int .i64 (t.r 7),x9,.int .i64 t.st,.int .i64 t.ft,x12]∧a_p w' (g+1) thN∧(¬ Up listed 15→x9=.slice fa fn fc)∧(¬ Up listed 17→x12=.slice la ln lc)) (hf0:Up listed 0→p3=.pointer (some ⟨g,9,none⟩)) (hf1:Up listed 1→p4=.slice fa fn fc) (hf2:Up listed 2→p5=.pointer (some ⟨g,9,none⟩)) (hf3:Up listed 3→p6=.slice fa fn fc) (hf4:Up listed 4→p7=.int .i64 fn) (hf5:Up listed 5→p8=.int .i64 m9) (hf6:Up listed 6→p9=.slice fa m9 fc) (hf7:Up listed 7→p10=.pointer (some ⟨g,12,none⟩)) (hf8:Up listed 8→p11=.slice la ln lc) (hf9:Up listed 9→p12=.pointer (some ⟨g,12,none⟩)) (hf10:Up listed 10→p13=.slice la ln lc) (hf11:Up listed 11→p14=.int .i64 ln) (hf12:Up listed 12→p15=.int .i64 m12) (hf13:Up listed 13→p16=.slice la m12 lc) (hf14:Up listed 14→p17=.pointer (some ⟨g,9,none⟩)) (hS:Up listed 15→Up listed 1∧Up listed 3∧x9=.slice fa m9 fc) (hf16:Up listed 16→p18=.pointer (some ⟨g,12,none⟩)) (hU:Up listed 17→Up listed 8∧Up listed 10∧x12=.slice la m12 lc):FewInv t g fa la fn fc ln lc m9 m12 a0 w0 listed act' w'
end Go.Proofs.YtolabfafgbmdbaaGreatDoor
namespace Go.Proofs.YtolabfafgbmdbaaGreatDoor
open Go.ChangeShapes Go.WideShapes Go.ChangeAt Go.RowKit
open Gen
open Lib (hid)
theorem m_B {t:Thr} {fn ln:Nat} (h1:t.fs.length=fn) (h2:t.lf.length=ln) (h:¬ (0≤t.pc∧t.pc≤1000∧fn≤6∧0≤t.st∧t.st≤2∧ln≤8)):b_c t=false:=by
 cases hr:b_c t with
 | false=>rfl
 | true =>
  have hl:=c_8 hr;have hp:=f_U hr;simp only [b_c,d_G,Bool.and_eq_true,decide_eq_true_eq] at hr
  omega
theorem h_d (t:Thr) (fa la:Option Addr) (fn fc ln lc:Nat) (w:World) (F:ThF w fa fn fc la ln lc t) :
  Calls Tryz.prog 41 #[.agg (thC t fa fn fc la ln lc).toArray] w (a_B (b_c t) w):=by
 obtain ⟨W,hW⟩:=nm (w.alloc (Obj.cells (thC t fa fn fc la ln lc).toArray 46));have X:=N44;have hB:=N2;have h1:t.fs.length=fn:=F.fs.1;have h2:t.lf.length=ln:=F.lf.1;replace F:=e_E hB F;have ⟨HF,HX,HB,HW,H1,H2⟩:=hh6 F X hB hW h1 h2;clear hW X hB F
 by_cases hA:0≤t.pc∧t.pc≤1000∧fn≤6∧0≤t.st∧t.st≤2∧ln≤8
 ·clear h1 h2;obtain ⟨a1,a2,a3,a4,a5,a6⟩:=hA;have i1:¬ t.pc < 0:=by omega
  have i2:¬ 1000 < t.pc:=by omega
  have i3:¬ (6:Int) < fn:=by omega
  have i4:¬ t.st < 0:=by omega
  have i5:¬ 2 < t.st:=by omega
  have i6:¬ (8:Int) < ln:=by omega
  have HA:=hid (And.intro a1 (And.intro a2 (And.intro a4 a5)));clear a1 a2 a4 a5
  go_enter Tryz.func41,Tryz.ntmps41
  go_upto_region 1 with fail
  rw [←HW.out];have k0:=(HX.out 0 _ rfl).1;have k9:=(HX.out 9 _ rfl).1;have k10:=(HX.out 10 _ rfl).1;have k12:=(HX.out 12 _ rfl).1
  go_wp2
  go_loopw [40] (fun i wr=>∃ k:Nat,k≤fn∧i=.int .i64 k∧Hid (i_o t.fs k)∧Below W.heap.size W wr) (fun i _=>fn - (intOf i).toNat)
  case atStart=>exact ⟨0,by omega,rfl,(show i_o t.fs 0 from fun i f hi=>by omega),Below.refl _ _⟩
  case round =>
   obtain ⟨k,hk,rfl,hf,hb⟩:=hrel;obtain ⟨wo,hwo⟩:∃ wo:World,wo=wr:=⟨_,rfl⟩;subst hwo
   by_cases hlt:k < fn
   ·obtain ⟨b,o,x0,x1,x2,x3,x4,rfl,hx,g0,g1,g2,g3,g4⟩:=l_G (e_h hb HF.out.fs) hlt;have ⟨HX0,HB0⟩:=hh2 hx hb;have j1:(0:Int)≤k:=by omega
    have j2:(k:Int) < fn:=by omega
    clear hx hb k0 k9 k10 k12
    by_cases h0:0≤x0∧x0≤1000
    ·have HS:=hid (g_x hf.out HX0.out h0);have q1:¬ x0 < 0:=by omega
     have q2:¬ 1000 < x0:=by omega
     clear h0
     go_wp2
     go_roundw
     case rel=>exact ⟨k+1,by omega,by go_num,HS.out,HB0.out.alloc HB0.out.size _⟩
     case measure=>simp [intOf];omega
    ·have HS:=hid (show b_c t=false by rw [b_c,g_F HX0.out h0,Bool.and_false];rfl);have HBB:=hid ((a_b HB.out HB0.out).alloc (a_b HB.out HB0.out).size (Obj.cells #[.int .i64 x0,.int .i64 x1,.int .i64 x2,.int .i64 x3,.int .i64 x4] 105));clear HB HB0
     go_wp2
     all_goals first
      | (exfalso;omega)
      | (go_ret;exact a_e HS.out HBB.out)
   ·obtain rfl:k=fn:=by omega
    have HFS:=hid (f_S H1.out a3 hf.out);have XB:=a_f hb HX.out;have HL:=hid (e_h hb HF.out.lf);have HBB:=hid (a_b HB.out hb);clear hb k0 k9 k10 k12;have k10:=(XB 10 _ rfl).1;have k11:=(XB 11 _ rfl).1;have k12:=(XB 12 _ rfl).1;clear XB
    go_wp2
    go_loop [56] (fun i=>∃ m:Nat,m≤ln∧i=.int .i64 m∧Hid (o_R t.lf m)) (fun i=>ln - (intOf i).toNat)
    case atStart=>exact ⟨0,by omega,rfl,(show o_R t.lf 0 from fun i f hi=>by omega)⟩
    case round =>
     obtain ⟨m,hm,rfl,hg⟩:=hrel
     by_cases hlt2:m < ln
     ·obtain ⟨b,o,x0,rfl,hx,g0⟩:=h_M HL.out hlt2;have HX0:=hid hx;have j1:(0:Int)≤m:=by omega
      have j2:(m:Int) < ln:=by omega
      clear hx
      by_cases h0:0≤x0∧x0≤8
      ·have HS:=hid (h_O hg.out HX0.out h0);have q1:¬ x0 < 0:=by omega
       have q2:¬ 8 < x0:=by omega
       clear h0
       go_wp2
       go_round
       case rel=>exact ⟨m+1,by omega,by go_num,HS.out⟩
       case measure=>simp [intOf];omega
      ·have HS:=hid (show b_c t=false by rw [b_c,g_G HX0.out h0,Bool.and_false])
       go_wp2
       all_goals first
        | (exfalso;omega)
        | (go_ret;exact a_e HS.out HBB.out)
     ·obtain rfl:m=ln:=by omega
      have HS:=hid (show b_c t=d_G t.st t.ft by
       have ha:=HA.out;rw [b_c,HFS.out,f_T H2.out a6 hg.out,decide_eq_true (And.intro ha.1 ha.2.1),Bool.true_and,Bool.true_and,Bool.and_true])
      clear hg hlt2
      go_wp2
      all_goals
       go_ret
       refine a_e (HS.out.trans ?_) HBB.out;have ha:=HA.out
       try simp only [beq_iff_eq,beq_eq_false_iff_ne] at *
       rw [Bool.eq_iff_iff];simp [d_G]
       try omega
 ·have HS:=hid (m_B h1 h2 hA);clear h1 h2
  go_enter Tryz.func41,Tryz.ntmps41
  go_upto_region 1 with fail
  rw [←HW.out];have k0:=(HX.out 0 _ rfl).1;have k9:=(HX.out 9 _ rfl).1;have k10:=(HX.out 10 _ rfl).1;have k12:=(HX.out 12 _ rfl).1
  go_wp2
  all_goals first
   | (exfalso;omega)
   | (go_ret;exact a_e HS.out HB.out)
theorem Tryz.plainI3:Tryz.prog.plainKey 3=true:=by kernel_rfl
theorem Tryz.cellsI3:Tryz.prog.cellsOf 3=1:=by kernel_rfl
theorem f_b (d:Nat) (xs ys:Array Value) (f g:Nat→Int) (w:World):∀ (is:List Nat),(∀ i,i∈is→xs[i]?=some (.int .i64 (f i))∧ys[i]?=some (.int .i64 (g i)))→(Op.eqItems (d+1) 3 (Tryz.prog.cellsOf 3) xs ys is).run Tryz.prog w=.ok (is.all (fun i=>f i==g i)) w
 | [],_=>by simp [Op.eqItems]
 | i::is,h=>by
  have hi:=h i (by simp);have ih:=f_b d xs ys f g w is (fun j hj=>h j (by simp [hj]));rw [Tryz.cellsI3] at ih ⊢;have p1:=run_part_plain (P:=Tryz.prog) w Tryz.plainI3 (show xs[i*1]?=some (.int .i64 (f i)) by rw [Nat.mul_one];exact hi.1);have p2:=run_part_plain (P:=Tryz.prog) w Tryz.plainI3 (show ys[i*1]?=some (.int .i64 (g i)) by rw [Nat.mul_one];exact hi.2)
  have p3:(Op.equalIn (d+1) 3 (.int .i64 (f i)) (.int .i64 (g i))).run Tryz.prog w=.ok (f i==g i) w:=by
   simp [Op.equalIn,run_underlying Tryz.underlying3]
  simp only [Op.eqItems,Sem.run_bind,p1,p2,p3,Result.andThen_ok,List.all_cons]
  cases f i==g i
  ·simp
  ·simpa using ih
theorem o_D (d n:Nat) {t:TypeId} (xs ys:Array Value) (f g:Nat→Int) (w:World) (ht:Tryz.prog.underlying t=some (.array n 3)) (h:∀ i,i < n→xs[i]?=some (.int .i64 (f i))∧ys[i]?=some (.int .i64 (g i))) :
  (Op.equalIn (d+2) t (.agg xs) (.agg ys)).run Tryz.prog w=.ok ((List.range n).all (fun i=>f i==g i)) w:=by
 obtain ⟨i0,hi,-⟩:=info_parts Tryz.infoI3;rw [run_equalIn_array w (d+1) xs ys ht hi];exact f_b d xs ys f g w _ (fun i hi=>h i (by simpa using hi))
def eqR (r r':Nat→Int):Bool:=(List.range 8).all (fun i=>r i==r' i)
theorem o_5 (r r':Nat→Int) (w:World):(Op.equalIn 10000 43 (.agg (rgC r).toArray) (.agg (rgC r').toArray)).run Tryz.prog w=.ok (eqR r r') w:=by
 exact o_D 9998 8 (t:=43) (rgC r).toArray (rgC r').toArray r r' w Tryz.underlying43 (by
  intro i hi
  match i,hi with
  | 0,_=>exact ⟨rfl,rfl⟩
  | 1,_=>exact ⟨rfl,rfl⟩
  | 2,_=>exact ⟨rfl,rfl⟩
  | 3,_=>exact ⟨rfl,rfl⟩
  | 4,_=>exact ⟨rfl,rfl⟩
  | 5,_=>exact ⟨rfl,rfl⟩
  | 6,_=>exact ⟨rfl,rfl⟩
  | 7,_=>exact ⟨rfl,rfl⟩)
theorem l_E (x1 x2 x3 x4 y1 y2 y3 y4:Int) (w:World):(Op.equalIn 9999 99 (.agg #[.int .i64 x1,.int .i64 x2,.int .i64 x3,.int .i64 x4]) (.agg #[.int .i64 y1,.int .i64 y2,.int .i64 y3,.int .i64 y4])).run Tryz.prog w=.ok (decide ((x1,x2,x3,x4)=(y1,y2,y3,y4))) w:=by
 have e1:=o_D 9997 4 (t:=99) #[.int .i64 x1,.int .i64 x2,.int .i64 x3,.int .i64 x4] #[.int .i64 y1,.int .i64 y2,.int .i64 y3,.int .i64 y4] (fun i=>if i=0 then x1 else if i=1 then x2 else if i=2 then x3 else x4) (fun i=>if i=0 then y1 else if i=1 then y2 else if i=2 then y3 else y4) w Tryz.underlying99 (by
  intro i hi
  match i,hi with
  | 0,_=>exact ⟨rfl,rfl⟩
  | 1,_=>exact ⟨rfl,rfl⟩
  | 2,_=>exact ⟨rfl,rfl⟩
  | 3,_=>exact ⟨rfl,rfl⟩)
 refine e1.trans ?_
 congr 1
 rw [Bool.eq_iff_iff];simp [List.range,List.range.loop]
theorem n_C (x0 x1 x2 x3 x4 y0 y1 y2 y3 y4:Int) (w:World):(Op.equalIn 10000 105 (.agg #[.int .i64 x0,.int .i64 x1,.int .i64 x2,.int .i64 x3,.int .i64 x4]) (.agg #[.int .i64 y0,.int .i64 y1,.int .i64 y2,.int .i64 y3,.int .i64 y4])).run Tryz.prog w=.ok (decide ((x0,x1,x2,x3,x4)=(y0,y1,y2,y3,y4))) w:=by
 have e1:=l_E x1 x2 x3 x4 y1 y2 y3 y4 w
 by_cases h0:x0=y0
 ·subst h0;obtain ⟨b,hb⟩:∃ b,decide ((x1,x2,x3,x4)=(y1,y2,y3,y4))=b:=⟨_,rfl⟩;rw [hb] at e1;have h2:decide ((x0,x1,x2,x3,x4)=(x0,y1,y2,y3,y4))=b:=by rw [←hb,Bool.eq_iff_iff];simp
  rw [h2]
  cases b <;> simp [go_sem,e1]
 ·have hb:(x0==y0)=false:=by simpa using h0
  simp [go_sem,hb,h0]
theorem c_d {B:Nat} {a w:World} (h:Below B a w) (q:Nat):Below B a (w.drewN q):=⟨h.os,h.tape,h.output,h.size,h.block⟩
def k_d {α:Type} (xs ys:List α) (k:Nat):Prop:=∀ i,i < k→xs[i]?=ys[i]?
theorem g_q {α:Type} (xs ys:List α):k_d xs ys 0:=fun i hi=>by omega
theorem g_p {α:Type} {xs ys:List α} {k:Nat} {x:α} (h:k_d xs ys k) (hx:xs[k]?=some x) (hy:ys[k]?=some x):k_d xs ys (k+1):=by
 intro i hi
 by_cases e:i=k
 ·subst e;rw [hx,hy]
 ·exact h i (by omega)
theorem j_B {α:Type} {xs ys:List α} {n:Nat} (hx:xs.length=n) (hy:ys.length=n) (h:k_d xs ys n):xs=ys:=by
 apply List.ext_getElem?
 intro i
 by_cases hi:i < n
 ·exact h i hi
 ·rw [List.getElem?_eq_none (by omega),List.getElem?_eq_none (by omega)]
theorem j_C {α:Type} {xs ys:List α} {k:Nat} {x y:α} (hx:xs[k]?=some x) (hy:ys[k]?=some y) (h:x≠y):xs≠ys:=by
 intro e;subst e;rw [hx] at hy;exact h (by injection hy)
theorem l_m {α:Type} {xs ys:List α} {n m:Nat} (hx:xs.length=n) (hy:ys.length=m) (h:m≠n):xs≠ys:=by
 intro e;subst e;omega
theorem k_9 (a b:Option Addr) (n c m d:Nat) (xs ys:List Int) (w:World) (S1:Vs repInt Any w a n xs) (S2:Vs repInt Any w b m ys) (hn:n≤9223372036854775807) :
  Calls Tryz.prog 63 #[.slice a n c,.slice b m d] w (a_B (decide (xs=ys)) w):=by
 have Hx:=hid S1.1;have Hy:=hid S2.1
 by_cases hl:m=n
 ·subst hl;have q:((m:Int) != m)=false:=by simp
  go_enter Tryz.func63,Tryz.ntmps63
  go_wp2
  go_loopw [13] (fun s wr=>∃ k:Nat,k≤m∧s=.int .i64 k∧Hid (k_d xs ys k)∧Below w.heap.size w wr) (fun s _=>m - (intOf s).toNat)
  case atStart=>exact ⟨0,by omega,rfl,g_q _ _,Below.refl _ _⟩
  case round =>
   obtain ⟨k,hk,rfl,hs,hb⟩:=hrel
   by_cases hlt:k < m
   ·obtain ⟨b1,o1,x,rfl,hx,g1⟩:=h_M (e_h hb S1) hlt;obtain ⟨b2,o2,y,rfl,hy,g2⟩:=h_M (e_h hb S2) hlt;have ⟨HX,HY,HB⟩:=hh3 hx hy hb;have i1:(0:Int)≤k:=by omega
    have i2:(k:Int) < m:=by omega
    clear hx hy hb
    by_cases e:x=y
    ·subst e;have HS:=hid (g_p hs.out HX.out HY.out);have q2:(x != x)=false:=by simp
     go_wp2
     go_quiet (fail)
     go_wp2
     go_roundw
     case rel=>exact ⟨k+1,by omega,by go_num,HS.out,c_d HB.out _⟩
     case measure=>simp [intOf];omega
    ·have HF:=hid (decide_eq_false (j_C HX.out HY.out e));have q2:(x != y)=true:=by simpa using e
     clear e
     go_wp2
     go_quiet (fail)
     go_wp2
     go_ret
     exact a_e HF.out (c_d HB.out _)
   ·obtain rfl:k=m:=by omega
    have HF:=hid (decide_eq_true (j_B Hx.out Hy.out hs.out));have HB:=hid hb;clear hb
    go_wp2
    go_ret
    exact a_e HF.out HB.out
 ·have HF:=hid (decide_eq_false (l_m Hx.out Hy.out hl));have q:=N60;clear hl
  go_enter Tryz.func63,Tryz.ntmps63
  go_wp2
  go_ret
  exact a_e HF.out (Below.refl _ _)
def j_j (t s:Thr):Bool:=decide (t.pc=s.pc)&&eqR t.r s.r&&decide (t.st=s.st)&&decide (t.ft=s.ft)&&decide (t.fs=s.fs)&&decide (t.lf=s.lf)
theorem sameT_iff {t s:Thr}:j_j t s=true ↔ t.pc=s.pc∧eqR t.r s.r=true∧t.st=s.st∧t.ft=s.ft∧t.fs=s.fs∧t.lf=s.lf:=by
  simp only [j_j,Bool.and_eq_true,decide_eq_true_eq,and_assoc]
theorem h_3 (t s:Thr) (fa la:Option Addr) (fn fc ln lc:Nat) (fa' la':Option Addr) (fn' fc' ln' lc':Nat) (w:World) (F:ThF w fa fn fc la ln lc t) (G:ThF w fa' fn' fc' la' ln' lc' s) (hn:fn≤1000000) :
    Calls Tryz.prog 25 #[.agg (thC t fa fn fc la ln lc).toArray,.agg (thC s fa' fn' fc' la' ln' lc').toArray] w (a_B (j_j t s) w):=by
  obtain ⟨W,hW⟩:=nm ((w.alloc (Obj.cells (thC t fa fn fc la ln lc).toArray 46)).alloc (Obj.cells (thC s fa' fn' fc' la' ln' lc').toArray 46));have X:=N24;have Y:a_p W (w.heap.size+1) (thC s fa' fn' fc' la' ln' lc'):=by rw [hW];exact a_i (thC s fa' fn' fc' la' ln' lc') _ (by simp)
  have hB:=N2;have hl:ln≤9223372036854775807:=Nat.le_trans F.lcap.1 F.lcap.2.1;replace F:=e_E hB F;replace G:=e_E hB G;have ⟨HF,HG,HX,HY,HB,HW⟩:=hh6 F G X Y hB hW;clear hW X Y hB F G
  go_enter Tryz.func25,Tryz.ntmps25
  go_upto_region 1 with fail
  rw [←HW.out];have k0:=(HX.out 0 _ rfl).1;have k1:=(HX.out 1 _ rfl).1;have k2:=(HX.out 2 _ rfl).1;have k3:=(HX.out 3 _ rfl).1;have k4:=(HX.out 4 _ rfl).1;have k5:=(HX.out 5 _ rfl).1;have k6:=(HX.out 6 _ rfl).1;have k7:=(HX.out 7 _ rfl).1;have k8:=(HX.out 8 _ rfl).1;have k9:=(HX.out 9 _ rfl).1;have k10:=(HX.out 10 _ rfl).1;have k11:=(HX.out 11 _ rfl).1;have k12:=(HX.out 12 _ rfl).1;have m0:=(HY.out 0 _ rfl).1;have m1:=(HY.out 1 _ rfl).1;have m2:=(HY.out 2 _ rfl).1;have m3:=(HY.out 3 _ rfl).1;have m4:=(HY.out 4 _ rfl).1;have m5:=(HY.out 5 _ rfl).1;have m6:=(HY.out 6 _ rfl).1;have m7:=(HY.out 7 _ rfl).1;have m8:=(HY.out 8 _ rfl).1;have m9:=(HY.out 9 _ rfl).1;have m10:=(HY.out 10 _ rfl).1;have m11:=(HY.out 11 _ rfl).1;have m12:=(HY.out 12 _ rfl).1;have q8:=o_5 t.r s.r W;obtain ⟨er,her⟩:=mn (eqR t.r s.r);rw [her] at q8;have HER:=hid her;clear her
  have HSE:Hid (t.pc=s.pc→er=true→t.st=s.st→t.ft=s.ft→j_j t s=(decide (t.fs=s.fs)&&decide (t.lf=s.lf))):=by
    intro h1 h2 h3 h4;rw [j_j,h1,h3,h4,HER.out,h2];simp
  by_cases hff:fn=fn'
  · subst hff
    have q:((fn:Int) != fn)=false:=by simp
    go_wp2
    any_goals first
      | (go_ret
         refine a_e (Bool.eq_false_iff.2 fun h=>?_) HB.out;obtain ⟨a1,a2,a3,a4,a5,a6⟩:=sameT_iff.1 h;rw [HER.out] at a2
         contradiction)
      | skip
    rename_i h1 h2 h3 h4 _ _
    have HSS:=hid (HSE.out h1 h2 h3 h4);clear HSE h1 h2 h3 h4 q8
    go_loopw [44] (fun i wr=>∃ k:Nat,k≤fn∧i=.int .i64 k∧Hid (k_d t.fs s.fs k)∧Below W.heap.size W wr) (fun i _=>fn - (intOf i).toNat)
    case atStart=>exact ⟨0,by omega,rfl,g_q _ _,Below.refl _ _⟩
    case round =>
      obtain ⟨k,hk,rfl,hs,hb⟩:=hrel;have X1:=a_f hb HX.out;have Y1:=a_f hb HY.out;clear k0 k1 k2 k3 k4 k5 k6 k7 k8 k9 k10 k11 k12 m0 m1 m2 m3 m4 m5 m6 m7 m8 m9 m10 m11 m12;have k9:=(X1 9 _ rfl).1;have m9:=(Y1 9 _ rfl).1;have k12:=(X1 12 _ rfl).1;have m12:=(Y1 12 _ rfl).1;clear X1 Y1
      by_cases hlt:k < fn
      · obtain ⟨b1,o1,x0,x1,x2,x3,x4,rfl,hx,g0,g1,g2,g3,g4⟩:=l_G (e_h hb HF.out.fs) hlt
        obtain ⟨b2,o2,y0,y1,y2,y3,y4,rfl,hy,d0,d1,d2,d3,d4⟩:=l_G (e_h hb HG.out.fs) hlt;have ⟨HX0,HY0,HB0⟩:=hh3 hx hy hb;have j1:(0:Int)≤k:=by omega
        have j2:(k:Int) < fn:=by omega
        clear hx hy hb k12 m12;have qe:=fun w=>n_C x0 x1 x2 x3 x4 y0 y1 y2 y3 y4 w
        obtain ⟨eb,heb⟩:∃ eb,decide ((x0,x1,x2,x3,x4)=(y0,y1,y2,y3,y4))=eb:=⟨_,rfl⟩;rw [heb] at qe;have HEB:=hid heb;clear heb
        cases eb with
        | true =>
          have HS:=hid (g_p hs.out HX0.out (by rw [of_decide_eq_true HEB.out];exact HY0.out))
          go_wp2
          go_quiet (fail)
          go_wp2
          go_roundw
          case rel=>exact ⟨k+1,by omega,by go_num,HS.out,c_d HB0.out _⟩
          case measure=>simp [intOf];omega
        | false =>
          have HS:=hid (j_C HX0.out HY0.out (of_decide_eq_false HEB.out))
          go_wp2
          go_quiet (fail)
          go_wp2
          go_ret
          exact a_e (by rw [HSS.out,decide_eq_false HS.out];rfl) (c_d (a_b HB.out HB0.out) _)
      · obtain rfl:k=fn:=by omega
        have HS:=hid (j_B HF.out.fs.1 HG.out.fs.1 hs.out);have L1:=e_h hb HF.out.lf;have L2:=e_h hb HG.out.lf;have HB1:=hid (a_b HB.out hb);clear hb k9 m9
        go_wp2_with fail
        refine (k_9 la la' ln lc ln' lc' t.lf s.lf _ L1 L2 hl).mono ?_;rintro e w2 ⟨rfl,hb2⟩;have HB2:=hid (a_b HB1.out hb2);obtain ⟨lb,hlb⟩:=mn (decide (t.lf=s.lf));rw [hlb];have HLB:=hid hlb;clear hlb hb2
        go_wp2
        go_ret
        exact a_e (by rw [HSS.out,decide_eq_true HS.out,HLB.out];rfl) HB2.out
  · have HNO:Hid (j_j t s=false):=Bool.eq_false_iff.2 fun h=>hff (by rw [←HF.out.fs.1,←HG.out.fs.1,(sameT_iff.1 h).2.2.2.2.1])
    have q:((fn:Int) != fn')=true:=by simp;omega
    clear HSE
    go_wp2
    all_goals
      go_ret
      exact a_e HNO.out HB.out
end Go.Proofs.YtolabfafgbmdbaaGreatDoor
namespace Go.Proofs.YtolabfafgbmdbaaGreatDoor
open Go.ChangeShapes Go.WideShapes Go.ChangeAt Go.RowKit
open Gen
abbrev In4:=Int×Int×Int×Int
def opd (i:In4) (k:Nat):Int:=if k=0 then i.2.1 else if k=1 then i.2.2.1 else i.2.2.2
def g_B (k:Nat):List UInt8:=[[],[114,110],[114,114],[114,114,110],[114,114,110],[114,114,114],[114,114,114],[114,114,114],[114,114,114],[114,114,114],[116],[114,116],[114,116],[116],[],[114]].getD k []
def k_4 (s:UInt8) (v:Int):Bool:=if s=114 then decide (0≤v∧v≤7) else if s=110 then true else decide (0≤v∧v≤1000)
def f_j (i:In4) (s:List UInt8):Bool:=(List.range s.length).all fun k=>k_4 (s.getD k 0) (opd i k)
def f_i (i:In4):Bool:=f_j i (g_B i.1.toNat)
def e_e (r:Nat→Int) (a v:Int):Nat→Int:=fun k=>if (k:Int)=a then v else r k
def rgt (t:Thr) (a:Int):Int:=t.r a.toNat
def goT (t:Thr) (pc:Int):Thr:=⟨pc,t.r,t.fs,t.st,t.ft,t.lf⟩
def d_P (t:Thr) (a v:Int):Thr:=⟨t.pc+1,e_e t.r a v,t.fs,t.st,t.ft,t.lf⟩
def brT (t:Thr) (b:Bool) (pc:Int):Thr:=if b=true then goT t pc else goT t (t.pc+1)
def opV (t:Thr) (self:Int) (i:In4):Int:=
 if i.1=1 then i.2.2.1 else if i.1=2 then rgt t i.2.2.1 else if i.1=3 then wrap64 (rgt t i.2.2.1+i.2.2.2) else if i.1=4 then bits .and .i64 (rgt t i.2.2.1) i.2.2.2 else
 if i.1=5 then wrap64 (rgt t i.2.2.1+rgt t i.2.2.2) else if i.1=6 then wrap64 (rgt t i.2.2.1 - rgt t i.2.2.2) else if i.1=7 then bits .and .i64 (rgt t i.2.2.1) (rgt t i.2.2.2) else
 if i.1=8 then bits .xor .i64 (rgt t i.2.2.1) (rgt t i.2.2.2) else if i.1=9 then (if rgt t i.2.2.1 < rgt t i.2.2.2 then 1 else 0) else self
def doT (t:Thr) (self:Int) (i:In4):Thr:=
 if i.1=10 then goT t i.2.1 else if i.1=11 then brT t (rgt t i.2.1==0) i.2.2.1 else if i.1=12 then brT t (rgt t i.2.1 != 0) i.2.2.1 else
 if i.1=13 then g_c t i.2.1 else if i.1=14 then g_U t else d_P t i.2.1 (opV t self i)
def doE (t:Thr) (i:In4):Int:=if i.1=13 then d_W t i.2.1 else if i.1=14 then f_h t else 0
def d_Y (t:Thr):Bool:=decide (t.st=0)&&decide (t.lf.length=0)
def g_6 (t:Thr) (self:Int):Bool:=b_c t&&decide (0≤self∧self≤7)
def apE (t:Thr) (self:Int) (i:In4):Int:=
 if g_6 t self=false∨t.pc=1000 then 1 else if d_Y t=false then 9 else if i.1 < 1∨15 < i.1 then 10 else if f_i i=false then 3 else doE t i
def apT (t:Thr) (self:Int) (i:In4):Thr:=if apE t self i=0 then doT t self i else d_d
theorem g_r {t:Thr} {self:Int} {i:In4} (h:apE t self i≠0):apT t self i=d_d:=by rw [apT,if_neg h]
theorem e_v {a:Int} (h:0≤a∧a≤7):∃ j:Nat,a=j∧j < 8:=⟨a.toNat,by omega,by omega⟩
theorem o_c (r:Nat→Int) (j:Nat) (v:Int) (k:Nat):e_e r (j:Int) v k=if k=j then v else r k:=by
 unfold e_e
 by_cases h:k=j
 ·subst h;simp
 ·rw [if_neg h,if_neg (by omega)]
theorem e_T (r:Nat→Int) (j:Nat) (hj:j < 8) (p:Value) (x:List Value):(p::(.int .i64 (r 0))::(.int .i64 (r 1))::(.int .i64 (r 2))::(.int .i64 (r 3))::(.int .i64 (r 4))::(.int .i64 (r 5))::(.int .i64 (r 6))::(.int .i64 (r 7))::x)[1+j]?=some (.int .i64 (r j)):=by
 exact J48
theorem j_l (r:Nat→Int) (j:Nat) (hj:j < 8) (v:Int) (p:Value) (x:List Value):(p::(.int .i64 (r 0))::(.int .i64 (r 1))::(.int .i64 (r 2))::(.int .i64 (r 3))::(.int .i64 (r 4))::(.int .i64 (r 5))::(.int .i64 (r 6))::(.int .i64 (r 7))::x).set (1+j) (.int .i64 v) =
  (p::(.int .i64 (e_e r j v 0))::(.int .i64 (e_e r j v 1))::(.int .i64 (e_e r j v 2))::(.int .i64 (e_e r j v 3))::(.int .i64 (e_e r j v 4))::(.int .i64 (e_e r j v 5))::(.int .i64 (e_e r j v 6))::(.int .i64 (e_e r j v 7))::x):=by
 simp only [o_c];exact J48
theorem o_6 {i:In4} {s:List UInt8} (h:f_j i s=true) {k:Nat} (hk:k < s.length):k_4 (s.getD k 0) (opd i k)=true:=by
 simp only [f_j,List.all_eq_true,List.mem_range] at h;exact h k hk
theorem n_D {i:In4} (h:f_i i=true) (h1:1≤i.1) (h2:i.1≤15):(i.1≠10∧i.1≠13∧i.1≠14→0≤i.2.1∧i.2.1≤7)∧((i.1=10∨i.1=13)→0≤i.2.1∧i.2.1≤1000) ∧
  ((2≤i.1∧i.1≤9)→0≤i.2.2.1∧i.2.2.1≤7)∧((i.1=11∨i.1=12)→0≤i.2.2.1∧i.2.2.1≤1000)∧((5≤i.1∧i.1≤9)→0≤i.2.2.2∧i.2.2.2≤7):=by
 obtain ⟨o,A,B,C⟩:=i;simp only at h1 h2 ⊢;have hc:o=1∨o=2∨o=3∨o=4∨o=5∨o=6∨o=7∨o=8∨o=9∨o=10∨o=11∨o=12∨o=13∨o=14∨o=15:=by omega
 rcases hc with rfl | rfl | rfl | rfl | rfl | rfl | rfl | rfl | rfl | rfl | rfl | rfl | rfl | rfl | rfl <;>
  simp [f_i,f_j,g_B,k_4,opd,List.range_succ] at h ⊢ <;> omega
end Go.Proofs.YtolabfafgbmdbaaGreatDoor
namespace Go.Proofs.YtolabfafgbmdbaaGreatDoor
open Go.ChangeShapes Go.WideShapes Go.ChangeAt Go.RowKit
open Gen
open Lib (hid)
theorem d_D (v m:Int) (w:World):Calls Tryz.prog 130 #[.int .i64 v,.int .i64 m] w (g_a (decide (0≤v∧v≤m)) w):=by
 go_enter Tryz.func130,Tryz.ntmps130
 go_wp2
 all_goals
  go_ret
  refine b_8 ?_;rw [Bool.eq_iff_iff];simp
  try omega
theorem h_Q (t:Thr) (self:Int) (fa la:Option Addr) (fn fc ln lc:Nat) (w:World) (F:ThF w fa fn fc la ln lc t) :
  Calls Tryz.prog 113 #[.agg (thC t fa fn fc la ln lc).toArray,.int .i64 self] w (a_B (g_6 t self) w):=by
 obtain ⟨W,hW⟩:=nm (w.alloc (Obj.cells (thC t fa fn fc la ln lc).toArray 46));have X:=N44;have hB:=N2;have FW:=hid (e_E hB F);have ⟨HX,HB,HW⟩:=hh3 X hB hW;clear hW X hB F
 go_enter Tryz.func113,Tryz.ntmps113
 go_upto_region 1 with fail
 rw [←HW.out];have k0:=(HX.out 0 _ rfl).1;have k1:=(HX.out 1 _ rfl).1;have k2:=(HX.out 2 _ rfl).1;have k3:=(HX.out 3 _ rfl).1;have k4:=(HX.out 4 _ rfl).1;have k5:=(HX.out 5 _ rfl).1;have k6:=(HX.out 6 _ rfl).1;have k7:=(HX.out 7 _ rfl).1;have k8:=(HX.out 8 _ rfl).1;have k9:=(HX.out 9 _ rfl).1;have k10:=(HX.out 10 _ rfl).1;have k11:=(HX.out 11 _ rfl).1;have k12:=(HX.out 12 _ rfl).1
 go_wp2_with fail
 refine (c_e t fa la fn fc ln lc _ FW.out).mono ?_;rintro e w1 ⟨rfl,hb1⟩;have HB1:=hid (a_b HB.out hb1);clear hb1
 cases h1:b_c t with
 | false =>
  have H1:=hid h1;clear h1
  go_wp2
  go_ret
  exact a_e (by rw [g_6,H1.out];rfl) HB1.out
 | true =>
  have H1:=hid h1;clear h1
  go_wp2_with fail
  refine (d_D self 7 _).mono ?_;rintro e w2 ⟨rfl,h⟩
  cases h
  obtain ⟨b,hb⟩:=mn (decide (0≤self∧self≤7));rw [hb];have HBB:=hid hb;clear hb
  go_wp2
  go_ret
  exact a_e (by rw [g_6,H1.out,HBB.out];rfl) HB1.out
theorem f_K (t:Thr) (fa la:Option Addr) (fn fc ln lc:Nat) (w:World) (hl:t.lf.length=ln) :
  Calls Tryz.prog 114 #[.agg (thC t fa fn fc la ln lc).toArray] w (a_B (d_Y t) w):=by
 have HL:=hid hl;clear hl
 go_enter Tryz.func114,Tryz.ntmps114
 go_wp2
 all_goals
  go_ret
  refine a_e ?_ (by go_grown);have e:d_Y t=(decide (t.st=0)&&decide (ln=0)):=by rw [d_Y,HL.out]
  rw [e]
  try simp only [beq_iff_eq,beq_eq_false_iff_ne] at *
  rw [Bool.eq_iff_iff];simp
  try omega
theorem i_8 (s:UInt8) (v:Int) (w:World):Calls Tryz.prog 146 #[.int .u8 s.toNat,.int .i64 v] w (g_a (k_4 s v) w):=by
 go_enter Tryz.func146,Tryz.ntmps146
 by_cases h1:s=114
 ·subst h1;have e:k_4 114 v=decide (0≤v∧v≤7):=rfl;rw [e]
  go_wp2_with fail
  refine (d_D v 7 _).mono ?_;rintro e w2 ⟨rfl,h⟩
  cases h
  go_wp2
  go_ret
  exact b_8 (by simp)
 ·by_cases h2:s=110
  ·subst h2
   go_wp2
   go_ret
   exact b_8 rfl
  ·have e:k_4 s v=decide (0≤v∧v≤1000):=by rw [k_4,if_neg h1,if_neg h2]
   have q1:((s.toNat:Int)==114)=false:=by
    rw [beq_eq_false_iff_ne];intro q;apply h1;apply UInt8.toNat_inj.1;show s.toNat=114;omega
   have q2:((s.toNat:Int)==110)=false:=by
    rw [beq_eq_false_iff_ne];intro q;apply h2;apply UInt8.toNat_inj.1;show s.toNat=110;omega
   rw [e];clear h1 h2 e
   go_wp2_with fail
   refine (d_D v 1000 _).mono ?_;rintro e w2 ⟨rfl,h⟩
   cases h
   go_wp2
   go_ret
   exact b_8 (by simp)
end Go.Proofs.YtolabfafgbmdbaaGreatDoor
