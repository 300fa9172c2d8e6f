import Derived.Test.YtogdpojnbgeknaaGreatDoorT4
import Derived.ChangeKeysEq
import Derived.Deep.QuietTactic
import Derived.Lib.Zigzag
import Derived.Test.YtogdpojnbgeknaaGreatDoorT0
import Derived.Lib.ItoaNum
import Derived.Lib.AtoiAll
import Derived.Test.YtogdpojnbgeknaaGreatDoorT1
import Derived.Lib.Split
import Derived.Lib.IndexLaws
import Derived.Lib.IndexBytes
import Derived.WalkSmall
import Derived.Maps.OwnIn
import Derived.Maps.OwnSet
import Derived.Maps.Views
import Derived.Lib.AppendIntMem
import Derived.Lib.ItoaLen
import Derived.Lib.AtoiErrMem
import Derived.RangeFuncNested
import Derived.RangeFuncBox
import Derived.RangeFuncBound
import Derived.RangeFuncCalls
import Derived.RangeFuncLeaves
import Derived.OwnWalkIn
import Derived.TacticsInMore
import Derived.LoopNIn
import Derived.LoopIn
import Derived.Shelf.Abstract
import Derived.Laws.Rows
import Derived.Deep.DeepCutAuto
set_option maxRecDepth 100000
set_option maxHeartbeats 16000000
namespace Go.Proofs.YtogdpojnbgeknaaGreatDoor
open Go.ChangeShapes Go.WideShapes Go.ChangeAt Go.RowKit
open Gen
inductive FewInv (t:Thr) (g:Nat) (fa la:Option Addr) (fn fc ln lc m9 m12:Nat) (a0:Act) (w0:World) (listed:Array Bool) (act':Act) (w':World):Prop
 | mk (p3 p4 p5 p6 p7 p8 p9 p10 p11 p12 p13 p14 p15 p16 p17 p18:Value) (x9:Value) (x12:Value) (ea:act'=((((((((((((((((a0.put (some 3) p3).put (some 4) p4).put (some 5) p5).put (some 6) p6).put (some 7) p7).put (some 8) p8).put (some 9) p9).put (some 10) p10).put (some 11) p11).put (some 12) p12).put (some 13) p13).put (some 14) p14).put (some 15) p15).put (some 16) p16).put (some 17) p17).put (some 18) p18)) (hb:Below g w0 w'∧a_p w' g [.int .i64 t.pc,.int .i64 (t.r 0),.int .i64 (t.r 1),.int .i64 (t.r 2),.int .i64 (t.r 3),.int .i64 (t.r 4),.int .i64 (t.r 5),.int .i64 (t.r 6),.int .i64 (t.r 7),x9,.int .i64 t.st,.int .i64 t.ft,x12]∧a_p w' (g+1) thN∧(¬ Up listed 15→x9=.slice fa fn fc)∧(¬ Up listed 17→x12=.slice la ln lc)) (hf0:Up listed 0→p3=.pointer (some ⟨g,9,none⟩)) (hf1:Up listed 1→p4=.slice fa fn fc) (hf2:Up listed 2→p5=.pointer (some ⟨g,9,none⟩)) (hf3:Up listed 3→p6=.slice fa fn fc) (hf4:Up listed 4→p7=.int .i64 fn) (hf5:Up listed 5→p8=.int .i64 m9) (hf6:Up listed 6→p9=.slice fa m9 fc) (hf7:Up listed 7→p10=.pointer (some ⟨g,12,none⟩)) (hf8:Up listed 8→p11=.slice la ln lc) (hf9:Up listed 9→p12=.pointer (some ⟨g,12,none⟩)) (hf10:Up listed 10→p13=.slice la ln lc) (hf11:Up listed 11→p14=.int .i64 ln) (hf12:Up listed 12→p15=.int .i64 m12) (hf13:Up listed 13→p16=.slice la m12 lc) (hf14:Up listed 14→p17=.pointer (some ⟨g,9,none⟩)) (hS:Up listed 15→Up listed 1∧Up listed 3∧x9=.slice fa m9 fc) (hf16:Up listed 16→p18=.pointer (some ⟨g,12,none⟩)) (hU:Up listed 17→Up listed 8∧Up listed 10∧x12=.slice la m12 lc):FewInv t g fa la fn fc ln lc m9 m12 a0 w0 listed act' w'
theorem Tryz.plainI3:Tryz.prog.plainKey 3=true:=by kernel_rfl
theorem Tryz.cellsI3:Tryz.prog.cellsOf 3=1:=by kernel_rfl
theorem g_s (d:Nat) (xs ys:Array Value) (f g:Nat→Int) (w:World):∀ (is:List Nat),(∀ i,i∈is→xs[i]?=some (.int .i64 (f i))∧ys[i]?=some (.int .i64 (g i)))→(Op.eqItems (d+1) 3 (Tryz.prog.cellsOf 3) xs ys is).run Tryz.prog w=.ok (is.all (fun i=>f i==g i)) w
 | [],_=>by simp [Op.eqItems]
 | i::is,h=>by
  have hi:=h i (by simp);have ih:=g_s d xs ys f g w is (fun j hj=>h j (by simp [hj]));rw [Tryz.cellsI3] at ih ⊢;have p1:=run_part_plain (P:=Tryz.prog) w Tryz.plainI3 (show xs[i*1]?=some (.int .i64 (f i)) by rw [Nat.mul_one];exact hi.1);have p2:=run_part_plain (P:=Tryz.prog) w Tryz.plainI3 (show ys[i*1]?=some (.int .i64 (g i)) by rw [Nat.mul_one];exact hi.2)
  have p3:(Op.equalIn (d+1) 3 (.int .i64 (f i)) (.int .i64 (g i))).run Tryz.prog w=.ok (f i==g i) w:=by
   simp [Op.equalIn,run_underlying Tryz.underlying3]
  simp only [Op.eqItems,Sem.run_bind,p1,p2,p3,Result.andThen_ok,List.all_cons]
  cases f i==g i
  ·simp
  ·simpa using ih
theorem t_J (d n:Nat) {t:TypeId} (xs ys:Array Value) (f g:Nat→Int) (w:World) (ht:Tryz.prog.underlying t=some (.array n 3)) (h:∀ i,i < n→xs[i]?=some (.int .i64 (f i))∧ys[i]?=some (.int .i64 (g i))) :
  (Op.equalIn (d+2) t (.agg xs) (.agg ys)).run Tryz.prog w=.ok ((List.range n).all (fun i=>f i==g i)) w:=by
 obtain ⟨i0,hi,-⟩:=info_parts Tryz.infoI3;rw [run_equalIn_array w (d+1) xs ys ht hi];exact g_s d xs ys f g w _ (fun i hi=>h i (by simpa using hi))
def eqR (r r':Nat→Int):Bool:=(List.range 8).all (fun i=>r i==r' i)
theorem s_j (r r':Nat→Int) (w:World):(Op.equalIn 10000 43 (.agg (rgC r).toArray) (.agg (rgC r').toArray)).run Tryz.prog w=.ok (eqR r r') w:=by
 exact t_J 9998 8 (t:=43) (rgC r).toArray (rgC r').toArray r r' w Tryz.underlying43 (by
  intro i hi
  match i,hi with
  | 0,_=>exact ⟨rfl,rfl⟩
  | 1,_=>exact ⟨rfl,rfl⟩
  | 2,_=>exact ⟨rfl,rfl⟩
  | 3,_=>exact ⟨rfl,rfl⟩
  | 4,_=>exact ⟨rfl,rfl⟩
  | 5,_=>exact ⟨rfl,rfl⟩
  | 6,_=>exact ⟨rfl,rfl⟩
  | 7,_=>exact ⟨rfl,rfl⟩)
theorem b_3 {B:Nat} {a w:World} (h:Below B a w) (q:Nat):Below B a (w.drewN q):=⟨h.os,h.tape,h.output,h.size,h.block⟩
theorem q_d {t:Thr} {tg:Int} (h:d_w t tg=0):a_1 t=true∧t.pc≠1000∧0≤tg∧tg≤1000∧t.fs.length≠6∧f_d t tg=⟨tg,t.r,t.fs++[(t.pc+1,t.r 4,t.r 5,t.r 6,t.r 7)],t.st,t.ft,t.lf⟩:=by
 have h1:f_d t tg=⟨tg,t.r,t.fs++[(t.pc+1,t.r 4,t.r 5,t.r 6,t.r 7)],t.st,t.ft,t.lf⟩:=by rw [f_d,if_pos h]
 rw [d_w] at h
 by_cases hc:a_1 t=true∧t.pc≠1000∧0≤tg∧tg≤1000
 ·rw [if_pos hc] at h;refine ⟨hc.1,hc.2.1,hc.2.2.1,hc.2.2.2,?_,h1⟩;intro e;rw [if_pos e] at h
  omega
 ·rw [if_neg hc] at h;omega
theorem k_Y {fs:List Fr} {f:Fr} (h:c_n fs=true) (hl:fs.length≠6) (hf:0≤f.1∧f.1≤1000):c_n (fs++[f])=true:=by
 simp only [c_n,Bool.and_eq_true,decide_eq_true_eq,List.all_eq_true] at h ⊢;refine ⟨by simp only [List.length_append,List.length_cons,List.length_nil];omega,fun x hx=>?_⟩
 rcases List.mem_append.1 hx with hx | hx
 ·exact h.2 x hx
 ·simp at hx;subst hx;exact hf
theorem m_4 {t:Thr} {pe:Int} {r:Nat→Int} {f:Fr} (h:a_1 t=true) (hl:t.fs.length≠6) (hp:0≤pe∧pe≤1000) (hf:0≤f.1∧f.1≤1000):a_1 ⟨pe,r,t.fs++[f],t.st,t.ft,t.lf⟩=true:=by
 simp only [a_1,Bool.and_eq_true,decide_eq_true_eq] at h ⊢;exact ⟨⟨⟨hp,k_Y h.1.1.2 hl hf⟩,h.1.2⟩,h.2⟩
abbrev In4:=Int×Int×Int×Int
def opd (i:In4) (k:Nat):Int:=if k=0 then i.2.1 else if k=1 then i.2.2.1 else i.2.2.2
def h_Z (k:Nat):List UInt8:=[[],[114,110],[114,114],[114,114,110],[114,114,110],[114,114,114],[114,114,114],[114,114,114],[114,114,114],[114,114,114],[116],[114,116],[114,116],[116],[],[114]].getD k []
def n_r (s:UInt8) (v:Int):Bool:=if s=114 then decide (0≤v∧v≤7) else if s=110 then true else decide (0≤v∧v≤1000)
def g_y (i:In4) (s:List UInt8):Bool:=(List.range s.length).all fun k=>n_r (s.getD k 0) (opd i k)
def c_3 (i:In4):Bool:=g_y i (h_Z i.1.toNat)
def b_V (r:Nat→Int) (a v:Int):Nat→Int:=fun k=>if (k:Int)=a then v else r k
def rgt (t:Thr) (a:Int):Int:=t.r a.toNat
def goT (t:Thr) (pc:Int):Thr:=⟨pc,t.r,t.fs,t.st,t.ft,t.lf⟩
def c_Z (t:Thr) (a v:Int):Thr:=⟨t.pc+1,b_V t.r a v,t.fs,t.st,t.ft,t.lf⟩
def brT (t:Thr) (b:Bool) (pc:Int):Thr:=if b=true then goT t pc else goT t (t.pc+1)
def opV (t:Thr) (self:Int) (i:In4):Int:=
 if i.1=1 then i.2.2.1 else if i.1=2 then rgt t i.2.2.1 else if i.1=3 then wrap64 (rgt t i.2.2.1+i.2.2.2) else if i.1=4 then bits .and .i64 (rgt t i.2.2.1) i.2.2.2 else
 if i.1=5 then wrap64 (rgt t i.2.2.1+rgt t i.2.2.2) else if i.1=6 then wrap64 (rgt t i.2.2.1 - rgt t i.2.2.2) else if i.1=7 then bits .and .i64 (rgt t i.2.2.1) (rgt t i.2.2.2) else
 if i.1=8 then bits .xor .i64 (rgt t i.2.2.1) (rgt t i.2.2.2) else if i.1=9 then (if rgt t i.2.2.1 < rgt t i.2.2.2 then 1 else 0) else self
def doT (t:Thr) (self:Int) (i:In4):Thr:=
 if i.1=10 then goT t i.2.1 else if i.1=11 then brT t (rgt t i.2.1==0) i.2.2.1 else if i.1=12 then brT t (rgt t i.2.1 != 0) i.2.2.1 else
 if i.1=13 then f_d t i.2.1 else if i.1=14 then f_0 t else c_Z t i.2.1 (opV t self i)
def doE (t:Thr) (i:In4):Int:=if i.1=13 then d_w t i.2.1 else if i.1=14 then e_g t else 0
def d_1 (t:Thr):Bool:=decide (t.st=0)&&decide (t.lf.length=0)
def f_J (t:Thr) (self:Int):Bool:=a_1 t&&decide (0≤self∧self≤7)
def apE (t:Thr) (self:Int) (i:In4):Int:=
 if f_J t self=false∨t.pc=1000 then 1 else if d_1 t=false then 9 else if i.1 < 1∨15 < i.1 then 10 else if c_3 i=false then 3 else doE t i
def apT (t:Thr) (self:Int) (i:In4):Thr:=if apE t self i=0 then doT t self i else d_E
theorem h_N {t:Thr} {self:Int} {i:In4} (h:apE t self i≠0):apT t self i=d_E:=by rw [apT,if_neg h]
theorem a_5 {a:Int} (h:0≤a∧a≤7):∃ j:Nat,a=j∧j < 8:=⟨a.toNat,by omega,by omega⟩
theorem l_3 (r:Nat→Int) (j:Nat) (v:Int) (k:Nat):b_V r (j:Int) v k=if k=j then v else r k:=by
 unfold b_V
 by_cases h:k=j
 ·subst h;simp
 ·rw [if_neg h,if_neg (by omega)]
theorem c_H (r:Nat→Int) (j:Nat) (hj:j < 8) (p:Value) (x:List Value):(p::(.int .i64 (r 0))::(.int .i64 (r 1))::(.int .i64 (r 2))::(.int .i64 (r 3))::(.int .i64 (r 4))::(.int .i64 (r 5))::(.int .i64 (r 6))::(.int .i64 (r 7))::x)[1+j]?=some (.int .i64 (r j)):=by
 exact J44
theorem k_3 (r:Nat→Int) (j:Nat) (hj:j < 8) (v:Int) (p:Value) (x:List Value):(p::(.int .i64 (r 0))::(.int .i64 (r 1))::(.int .i64 (r 2))::(.int .i64 (r 3))::(.int .i64 (r 4))::(.int .i64 (r 5))::(.int .i64 (r 6))::(.int .i64 (r 7))::x).set (1+j) (.int .i64 v) =
  (p::(.int .i64 (b_V r j v 0))::(.int .i64 (b_V r j v 1))::(.int .i64 (b_V r j v 2))::(.int .i64 (b_V r j v 3))::(.int .i64 (b_V r j v 4))::(.int .i64 (b_V r j v 5))::(.int .i64 (b_V r j v 6))::(.int .i64 (b_V r j v 7))::x):=by
 simp only [l_3];exact J44
theorem r_a (r:Nat→Int) (j:Nat) (hj:j < 8) (v:Int) (x:List Value):((.int .i64 (r 0))::(.int .i64 (r 1))::(.int .i64 (r 2))::(.int .i64 (r 3))::(.int .i64 (r 4))::(.int .i64 (r 5))::(.int .i64 (r 6))::(.int .i64 (r 7))::x).set j (.int .i64 v) =
  ((.int .i64 (b_V r j v 0))::(.int .i64 (b_V r j v 1))::(.int .i64 (b_V r j v 2))::(.int .i64 (b_V r j v 3))::(.int .i64 (b_V r j v 4))::(.int .i64 (b_V r j v 5))::(.int .i64 (b_V r j v 6))::(.int .i64 (b_V r j v 7))::x):=by
 simp only [l_3];exact J44
theorem e_4 {t:Thr} {pc:Int} {r:Nat→Int} (h:a_1 t=true) (hp:0≤pc∧pc≤1000):a_1 ⟨pc,r,t.fs,t.st,t.ft,t.lf⟩=true:=by
 simp only [a_1,Bool.and_eq_true,decide_eq_true_eq] at h ⊢;exact ⟨⟨⟨hp,h.1.1.2⟩,h.1.2⟩,h.2⟩
theorem s_k {i:In4} {s:List UInt8} (h:g_y i s=true) {k:Nat} (hk:k < s.length):n_r (s.getD k 0) (opd i k)=true:=by
 simp only [g_y,List.all_eq_true,List.mem_range] at h;exact h k hk
theorem b_Y {i:In4} (h:c_3 i=true) (h1:1≤i.1) (h2:i.1≤15):(i.1≠10∧i.1≠13∧i.1≠14→0≤i.2.1∧i.2.1≤7)∧((i.1=10∨i.1=13)→0≤i.2.1∧i.2.1≤1000) ∧
  ((2≤i.1∧i.1≤9)→0≤i.2.2.1∧i.2.2.1≤7)∧((i.1=11∨i.1=12)→0≤i.2.2.1∧i.2.2.1≤1000)∧((5≤i.1∧i.1≤9)→0≤i.2.2.2∧i.2.2.2≤7):=by
 obtain ⟨o,A,B,C⟩:=i;simp only at h1 h2 ⊢;have hc:o=1∨o=2∨o=3∨o=4∨o=5∨o=6∨o=7∨o=8∨o=9∨o=10∨o=11∨o=12∨o=13∨o=14∨o=15:=by omega
 rcases hc with rfl | rfl | rfl | rfl | rfl | rfl | rfl | rfl | rfl | rfl | rfl | rfl | rfl | rfl | rfl <;>
  simp [c_3,g_y,h_Z,n_r,opd,List.range_succ] at h ⊢ <;> omega
theorem r_G {t:Thr} {self:Int} {i:In4} (h:apE t self i=0):a_1 t=true∧(0≤self∧self≤7)∧t.pc≠1000∧t.st=0∧t.lf=[]∧1≤i.1∧i.1≤15∧c_3 i=true∧doE t i=0∧apT t self i=doT t self i:=by
 have h':=h;unfold apE at h
 split at h
 ·omega
 ·rename_i h1
  split at h
  ·omega
  ·rename_i h2
   split at h
   ·omega
   ·rename_i h3
    split at h
    ·omega
    ·rename_i h4
     have e:f_J t self=true:=by cases hm:f_J t self with | true=>rfl | false=>exact absurd (Or.inl hm) h1
     have e2:d_1 t=true:=by simpa using h2
     simp only [f_J,d_1,Bool.and_eq_true,decide_eq_true_eq] at e e2;exact ⟨e.1,e.2,fun hp=>h1 (.inr hp),e2.1,List.eq_nil_of_length_eq_zero e2.2,by omega,by omega,by simpa using h4,h,by rw [apT,if_pos h']⟩
theorem q_4 {t:Thr} {self:Int} {i:In4} (h:apE t self i=0):a_1 (apT t self i)=true∧(apT t self i).st=0∧(apT t self i).lf=[]:=by
 obtain ⟨h1,h2,h3,h4,h5,h6,h7,h8,h9,h10⟩:=r_G h;obtain ⟨f1,f2,f3,f4,f5⟩:=b_Y h8 h6 h7;have hp:=b_D h1;rw [h10];unfold doT
 split
 ·exact ⟨e_4 h1 (f2 (.inl (by assumption))),h4,h5⟩
 ·split
  ·unfold brT;split
   ·exact ⟨e_4 h1 (f4 (.inl (by assumption))),h4,h5⟩
   ·exact ⟨e_4 h1 (by omega),h4,h5⟩
  ·split
   ·unfold brT;split
    ·exact ⟨e_4 h1 (f4 (.inr (by assumption))),h4,h5⟩
    ·exact ⟨e_4 h1 (by omega),h4,h5⟩
   ·split
    ·rename_i hq
     have hc:d_w t i.2.1=0:=by rw [doE,if_pos hq] at h9;exact h9
     obtain ⟨c1,c2,c3,c4,c5,c6⟩:=q_d hc;rw [c6];exact ⟨m_4 h1 c5 ⟨c3,c4⟩ (by show 0≤t.pc+1∧t.pc+1≤1000;omega),h4,h5⟩
    ·split
     ·rename_i hn hq
      have hc:e_g t=0:=by rw [doE,if_neg hn,if_pos hq] at h9;exact h9
      have hl:t.fs.length≠0:=fun e=>by rw [e_g,if_pos h1,if_pos e] at hc;omega
      have hm:e_x t∈t.fs:=by
       rw [e_x,List.getD_eq_getElem?_getD,List.getElem?_eq_getElem (by omega)];exact List.getElem_mem _
      rw [f_0,if_pos hc];refine ⟨?_,h4,h5⟩;simp only [a_1,c_n,Bool.and_eq_true,decide_eq_true_eq,List.all_eq_true] at h1 ⊢;refine ⟨⟨⟨h1.1.1.2.2 _ hm,by rw [List.length_take];have:=h1.1.1.2.1;omega,fun f hf=>h1.1.1.2.2 f (List.mem_of_mem_take hf)⟩,h1.1.2⟩,h1.2⟩
     ·exact ⟨e_4 h1 (by omega),h4,h5⟩
end Go.Proofs.YtogdpojnbgeknaaGreatDoor
namespace Go.Proofs.YtogdpojnbgeknaaGreatDoor
abbrev Bs:=List UInt8
def u_w (b:UInt8):Bool:=decide (48≤b.toNat∧b.toNat≤57)
def u_D (b:UInt8):Bool:=decide (97≤b.toNat∧b.toNat≤122)
def u_k (l:Bs):Bool:=decide (1≤l.length∧l.length≤12)&&!u_w (l.getD 0 0)&&l.all (fun b=>u_w b||u_D b)
def u_G (l:Bs):Int×Int:=if l.length=2∧(l.getD 0 0).toNat=114∧48≤(l.getD 1 0).toNat∧(l.getD 1 0).toNat≤55 then ((l.getD 1 0).toNat - 48,0) else (0,3)
def b_S (sign v many:Int):Bool:=if sign=114 then decide (0≤v∧v≤7) else if sign=110 then decide (-1000000000≤v∧v≤1000000000) else decide (0≤v∧v≤many)
end Go.Proofs.YtogdpojnbgeknaaGreatDoor
namespace Go.Proofs.YtogdpojnbgeknaaGreatDoor
open Go.ChangeShapes Go.WideShapes Go.ChangeAt Go.RowKit
open Gen
theorem m_u (s:ByteArray):s.size=s.data.toList.length:=Array.length_toList.symm
theorem e_1 (s:ByteArray) (i:Nat) (h:i < s.size):s[i]'h=s.data.toList.getD i 0:=by
 have h':i < s.data.size:=h;rw [show s[i]'h=s.data[i]'h' from rfl,List.getD_eq_getElem?_getD,Array.getElem?_toList,Array.getElem?_eq_getElem h']
 rfl
theorem f_2 (b v m:Int) (w:World):Calls Tryz.prog 107 #[.int .u8 b,.int .i64 v,.int .i64 m] w (g_Q (b_S b v m) w):=by
 by_cases h1:b=114
 ·subst h1;exact J87
 ·by_cases h2:b=110
  ·subst h2;exact J87
  ·have e1:(b==114)=false:=by simpa using h1
   have e2:(b==110)=false:=by simpa using h2
   have HF:=Lib.hid (show b_S b v m=decide (0≤v∧v≤m) by rw [b_S,if_neg h1,if_neg h2]);clear h1 h2
   go_enter Tryz.func107,Tryz.ntmps107
   go_wp2
   all_goals
    go_ret
    refine c_P ?_;rw [HF.out];rw [Bool.eq_iff_iff];simp
    try omega
end Go.Proofs.YtogdpojnbgeknaaGreatDoor
namespace Go.Proofs.YtogdpojnbgeknaaGreatDoor
def o_6 (c:UInt8):Bs→List Bs
 | []=>[[]]
 | b::t=>if b=c then []::o_6 c t else match o_6 c t with | p::ps=>(b::p)::ps | []=>[[b]]
def u_E (l:Bs):Int×Int:=match Lib.atoiAll l with | .ok v=>if Lib.itoa v=l∧-1000000000≤v∧v≤1000000000 then (v,0) else (0,3) | _=>(0,3)
def opName:List Bs:=[[104,97,108,116],[115,101,116],[109,111,118,101],[112,108,117,115],[109,97,115,107],[97,100,100],[115,117,98],[97,110,100],[120,111,114],[108,101,115,115],[106,117,109,112],[122,101,114,111],[115,111,109,101],[99,97,108,108],[114,101,116],[115,101,108,102],[108,111,97,100],[115,116,111,114,101],[102,101,110,99,101],[99,97,115],[120,99,104,103],[102,101,116,99,104],[98,114,111,97,100],[119,97,105,116],[111,119,110],[100,114,111,112],[109,97,114,107]]
def opSign:List Bs:=[[],[114,110],[114,114],[114,114,110],[114,114,110],[114,114,114],[114,114,114],[114,114,114],[114,114,114],[114,114,114],[116],[114,116],[114,116],[116],[],[114],[114,114,110],[114,114,110],[],[114,114,114],[114,114],[114,114],[],[114,114],[114,114],[114,114],[110]]
def u_F (l:Bs):Option Nat:=(List.range 27).find? (fun k=>decide (opName.getD k []=l))
def t_x (sg:Bs):Prop:=sg.length≤3∧∀ i,i < sg.length→(sg.getD i 0).toNat=114∨(sg.getD i 0).toNat=110∨(sg.getD i 0).toNat=116
theorem l_5:∀ k,k < 27→t_x (opSign.getD k []):=by
 have h:(List.range 27).all (fun k=>decide ((opSign.getD k []).length≤3)&&(List.range (opSign.getD k []).length).all (fun i=>decide (((opSign.getD k []).getD i 0).toNat=114∨((opSign.getD k []).getD i 0).toNat=110∨((opSign.getD k []).getD i 0).toNat=116)))=true:=by decide
 intro k hk;rw [List.all_eq_true] at h;have h1:=h k (List.mem_range.2 hk);rw [Bool.and_eq_true,decide_eq_true_eq,List.all_eq_true] at h1;exact ⟨h1.1,fun i hi=>by have:=h1.2 i (List.mem_range.2 hi);rwa [decide_eq_true_eq] at this⟩
def u_q (f:Bs→Option (Int×Int)) (l:Bs):Int×Int:=if u_k l=false then (0,3) else match f l with | none=>(0,11) | some p=>(p.2,0)
def u_n (f:Bs→Option (Int×Int)) (c:Nat) (p:Bs):Int×Int:=if c=114 then u_G p else if c=110 then u_E p else u_q f p
def u_i (f:Bs→Option (Int×Int)) (sg:Bs) (ps:List Bs) (i:Nat):Int:=(u_n f (sg.getD i 0).toNat (ps.getD i [])).2
abbrev Ins:=Int×Int×Int×Int
end Go.Proofs.YtogdpojnbgeknaaGreatDoor
namespace Go.Proofs.YtogdpojnbgeknaaGreatDoor
open Go.ChangeShapes Go.WideShapes Go.ChangeAt Go.RowKit
open Gen
open Go.Maps (Keyed)
abbrev str (l:Bs):ByteArray:=⟨l.toArray⟩
def opCells:List Value:=(List.range 27).flatMap fun k=>[.string (str (opName.getD k [])),.string (str (opSign.getD k []))]
structure Glob (w:World):Prop where
 size:0+1≤w.heap.size
 ops:w.var? Tryz.prog "respite/asm.operations"=some opCells.toArray
theorem Tryz.gOps:Tryz.prog.globalNamed "respite/asm.operations"=some 0:=by kernel_rfl
theorem Glob.low {F:Nat} {w w':World} (hF:0+1≤F) (hb:Below F w w') (h:Glob w):Glob w' where
 size:=Nat.le_trans h.size hb.size
 ops:=var?_below hb Tryz.gOps (by omega) h.ops
theorem Glob.B {w w':World} (h:Glob w) (hb:Below w.heap.size w w'):Glob w':=h.low h.size hb
theorem Glob.A {w:World} (h:Glob w) (o:Obj):Glob (w.alloc o):=h.B ((Below.refl _ _).alloc (Nat.le_refl _) _)
theorem e_o (l:Bs):(str l).data.toList=l:=by simp
theorem e_8 (l:Bs):(str l).size=l.length:=by rw [m_u,e_o]
end Go.Proofs.YtogdpojnbgeknaaGreatDoor
namespace Go.Proofs.YtogdpojnbgeknaaGreatDoor
open Go.ChangeShapes Go.WideShapes Go.ChangeAt Go.RowKit Go.Shelf
open Gen
attribute [local go_sem] Oper.semAt_some
abbrev Ln:={ x:Bs×Bool // x.1.length≤50000 }
def vals (ys:List Ln):List (Bs×Bool):=ys.map Subtype.val
end Go.Proofs.YtogdpojnbgeknaaGreatDoor
namespace Go.Proofs.YtogdpojnbgeknaaGreatDoor
open Go.ChangeShapes Go.WideShapes Go.ChangeAt Go.RowKit
open Gen
theorem q_R {w:World} (G:Glob w):∃ t fr,w.heap[0]?=some (.cells opCells.toArray t fr):=by
 have h:=G.ops;simp only [World.var?,Tryz.gOps,Option.bind_some] at h
 split at h
 ·rename_i cs t fr hc
  injection h with h
  subst h;exact ⟨t,fr,hc⟩
 ·cases h
theorem q_S {w:World} (G:Glob w) (k:Nat) (hk:k < 27):w.cell? ⟨0,k*2+1,none⟩=some (.string (str (opSign.getD k []))):=by
 obtain ⟨t,fr,h⟩:=q_R G;rw [cell_of_row w _ _ _ t fr h];exact J60
def t_f (i:Ins):Value:=.agg #[.int .i64 i.1,.int .i64 i.2.1,.int .i64 i.2.2.1,.int .i64 i.2.2.2]
end Go.Proofs.YtogdpojnbgeknaaGreatDoor
namespace Go.Proofs.YtogdpojnbgeknaaGreatDoor
open Go.ChangeShapes Go.WideShapes Go.ChangeAt Go.RowKit
open Gen
open Lib (hid)
def e_a (i:Ins) (k:Nat):Int:=if k=0 then i.2.1 else if k=1 then i.2.2.1 else i.2.2.2
def kOk (i:Ins) (m:Int) (sg:Bs) (k:Nat):Bool:=if k < sg.length then b_S (sg.getD k 0).toNat (e_a i k) m else decide (e_a i k=0)
def c_M (i:Ins) (m:Int):Bool:=decide (0≤i.1∧i.1 < 27)&&(List.range 3).all (kOk i m (opSign.getD i.1.toNat []))
theorem o_D {i:Ins} {m:Int} (h:¬ (0≤i.1∧i.1 < 27)):c_M i m=false:=by simp only [c_M,decide_eq_false h,Bool.false_and]
theorem b_E {i:Ins} {m:Int} {k:Nat} (hk:k < 3) (h:kOk i m (opSign.getD i.1.toNat []) k=false):c_M i m=false:=by
 cases hm:c_M i m with
 | false=>rfl
 | true =>
  simp only [c_M,Bool.and_eq_true,List.all_eq_true] at hm;have:=hm.2 k (List.mem_range.2 hk);rw [h] at this;cases this
theorem l_Q {i:Ins} {m:Int} (h0:0≤i.1∧i.1 < 27) (h:∀ k,k < 3→kOk i m (opSign.getD i.1.toNat []) k=true):c_M i m=true:=by
 simp only [c_M,Bool.and_eq_true,decide_eq_true_eq,List.all_eq_true];exact ⟨h0,fun k hk=>h k (List.mem_range.1 hk)⟩
theorem t_B (x y z:Value) (w:World):(Instr.index 151 (.agg #[x,y,z]) (.int .i64 0)).run Tryz.prog w=.ok x w:=by
 exact J88
theorem t_C (x y z:Value) (w:World):(Instr.index 151 (.agg #[x,y,z]) (.int .i64 1)).run Tryz.prog w=.ok y w:=by
 exact J88
theorem t_D (x y z:Value) (w:World):(Instr.index 151 (.agg #[x,y,z]) (.int .i64 2)).run Tryz.prog w=.ok z w:=by
 exact J88
theorem s_E (i:Ins) (m:Int) (w:World) (G:Glob w):Calls Tryz.prog 65 #[t_f i,.int .i64 m] w (b_l (c_M i m) w):=by
 obtain ⟨op,a,b,c⟩:=i
 show Calls Tryz.prog 65 #[.agg #[.int .i64 op,.int .i64 a,.int .i64 b,.int .i64 c],.int .i64 m] w (b_l (c_M (op,a,b,c) m) w)
 by_cases h0:0≤op∧op < 27
 ·obtain ⟨k,rfl⟩:∃ k:Nat,op=(k:Int):=⟨op.toNat,by omega⟩;have hk:k < 27:=by omega
  obtain ⟨sg,hsg⟩:=mn (opSign.getD k []);obtain ⟨s1,s2⟩:=l_5 k hk;rw [hsg] at s1 s2;have hop:(opSign.getD ((k:Int),a,b,c).1.toNat [])=sg:=by rw [←hsg];rfl
  have ⟨HOP,H0⟩:=hh2 hop h0;obtain ⟨W,hW⟩:=nm (w.alloc (Obj.cells #[.int .i64 k,.int .i64 a,.int .i64 b,.int .i64 c] 66));have X:a_p W w.heap.size [.int .i64 k,.int .i64 a,.int .i64 b,.int .i64 c]:=by rw [hW];exact a_e _ _ rfl
  have hB:=N2;have xs:=q_S (G.B hB) k hk;rw [hsg] at xs;have ⟨HB,HW,HX⟩:=hh3 hB hW X;have i1:(0:Int)≤k:=by omega
  have i2:(k:Int) < 27:=by omega
  have i3:¬ (k:Int) < 0:=by omega
  have i4:¬ (27:Int)≤k:=by omega
  clear hsg hop h0 hW X hB s2 hk
  go_enter Tryz.func65,Tryz.ntmps65
  go_upto_region 1 with fail
  rw [←HW.out];have x0:=(HX.out 0 _ rfl).1;have x1:=(HX.out 1 _ rfl).1;have x2:=(HX.out 2 _ rfl).1;have x3:=(HX.out 3 _ rfl).1
  go_wp2
  go_loop [28] (fun i=>∃ j:Nat,j≤3∧i=.int .i64 j∧Hid (∀ q,q < j→kOk (k,a,b,c) m sg q=true)) (fun i=>3 - (intOf i).toNat)
  case atStart=>exact ⟨0,by omega,rfl,(show ∀ q,q < 0→_ from fun q hq=>by omega)⟩
  case round =>
   obtain ⟨j,hj,rfl,hok⟩:=hrel
   have hstep:∀ {j:Nat},(∀ q,q < j→kOk (k,a,b,c) m sg q=true)→kOk (k,a,b,c) m sg j=true→∀ q,q < j+1→kOk (k,a,b,c) m sg q=true:=fun h1 h2 q hq=>by
    rcases Nat.lt_succ_iff_lt_or_eq.1 hq with h | rfl
    ·exact h1 q h
    ·exact h2
   clear x0 x1 x2 x3 xs
   rcases (show j=0∨j=1∨j=2∨j=3 by omega) with rfl | rfl | rfl | rfl
   ·have ai:=fun w=>t_B (.int .i64 a) (.int .i64 b) (.int .i64 c) w
    by_cases hlt:0 < sg.length
    ·have hjs:0 < (str sg).size:=by rw [e_8];exact hlt
     have hbt:(str sg)[0].toNat=(sg.getD 0 0).toNat:=by rw [e_1,e_o]
     obtain ⟨ch,hch⟩:=mn ((str sg)[0].toNat);have hv:kOk ((k:Int),a,b,c) m sg 0=b_S ch a m:=by rw [kOk,if_pos hlt,←hbt,hch];rfl
     have HV:=hid hv;have j1:¬ sg=[]:=by intro e;subst e;simp at hlt
     have j3:0 < sg.length:=hlt;have j2:(0:Int) < sg.length:=by omega
     clear hv hbt hlt;have hf:∀ w',Calls Tryz.prog 107 #[.int .u8 ((str sg)[0].toNat:Nat),.int .i64 a,.int .i64 m] w' (g_Q (b_S ch a m) w'):=fun w'=>by rw [hch];exact f_2 ch a m w'
     clear hch
     cases hb:b_S ch a m with
     | true =>
      have HS:=N239;rw [hb] at hf;clear hb hok hstep
      go_wp2_with fail
      refine (hf _).mono ?_;rintro e w' ⟨rfl,h⟩
      cases h
      go_wp2
      go_round
      case rel=>exact ⟨1,by omega,by go_num,HS.out⟩
      case measure=>simp [intOf]
     | false =>
      have HS:=hid (b_E (i:=((k:Int),a,b,c)) (m:=m) (k:=0) (by omega) (by rw [HOP.out,HV.out];exact hb));exact J68
    ·have hv:=N229;have j1:sg=[]:=List.eq_nil_of_length_eq_zero (by omega);clear hlt
     by_cases hz:a=0
     ·have HS:=N193;have q:(a != 0)=false:=by simpa using hz
      clear hz hv hok hstep
      go_wp2
      go_round
      case rel=>exact ⟨1,by omega,by go_num,HS.out⟩
      case measure=>simp [intOf]
     ·have HS:=hid (b_E (i:=((k:Int),a,b,c)) (m:=m) (k:=0) (by omega) (by rw [HOP.out,hv];exact decide_eq_false hz));have q:(a != 0)=true:=by simpa using hz
      clear hz hv hok hstep
      go_wp2
      go_ret
      exact a_k HS.out HB.out
   ·have ai:=fun w=>t_C (.int .i64 a) (.int .i64 b) (.int .i64 c) w
    by_cases hlt:1 < sg.length
    ·have hjs:1 < (str sg).size:=by rw [e_8];exact hlt
     have hbt:(str sg)[1].toNat=(sg.getD 1 0).toNat:=by rw [e_1,e_o]
     obtain ⟨ch,hch⟩:=mn ((str sg)[1].toNat);have hv:kOk ((k:Int),a,b,c) m sg 1=b_S ch b m:=by rw [kOk,if_pos hlt,←hbt,hch];rfl
     have HV:=hid hv;have j1:¬ (sg.length:Int)≤1:=by omega
     have j2:(1:Int) < sg.length:=by omega
     clear hv hbt hlt;have hf:∀ w',Calls Tryz.prog 107 #[.int .u8 ((str sg)[1].toNat:Nat),.int .i64 b,.int .i64 m] w' (g_Q (b_S ch b m) w'):=fun w'=>by rw [hch];exact f_2 ch b m w'
     clear hch
     cases hb:b_S ch b m with
     | true =>
      have HS:=N239;rw [hb] at hf;clear hb hok hstep
      go_wp2_with fail
      refine (hf _).mono ?_;rintro e w' ⟨rfl,h⟩
      cases h
      go_wp2
      go_round
      case rel=>exact ⟨2,by omega,by go_num,HS.out⟩
      case measure=>simp [intOf]
     | false =>
      have HS:=hid (b_E (i:=((k:Int),a,b,c)) (m:=m) (k:=1) (by omega) (by rw [HOP.out,HV.out];exact hb));exact J68
    ·have hv:=N230;have j1:(sg.length:Int)≤1:=by omega
     clear hlt
     by_cases hz:b=0
     ·have HS:=N193;have q:(b != 0)=false:=by simpa using hz
      clear hz hv hok hstep
      go_wp2
      go_round
      case rel=>exact ⟨2,by omega,by go_num,HS.out⟩
      case measure=>simp [intOf]
     ·have HS:=hid (b_E (i:=((k:Int),a,b,c)) (m:=m) (k:=1) (by omega) (by rw [HOP.out,hv];exact decide_eq_false hz));have q:(b != 0)=true:=by simpa using hz
      clear hz hv hok hstep
      go_wp2
      go_ret
      exact a_k HS.out HB.out
   ·have ai:=fun w=>t_D (.int .i64 a) (.int .i64 b) (.int .i64 c) w
    by_cases hlt:2 < sg.length
    ·have hjs:2 < (str sg).size:=by rw [e_8];exact hlt
     have hbt:(str sg)[2].toNat=(sg.getD 2 0).toNat:=by rw [e_1,e_o]
     obtain ⟨ch,hch⟩:=mn ((str sg)[2].toNat);have hv:kOk ((k:Int),a,b,c) m sg 2=b_S ch c m:=by rw [kOk,if_pos hlt,←hbt,hch];rfl
     have HV:=hid hv;have j1:¬ (sg.length:Int)≤2:=by omega
     have j2:(2:Int) < sg.length:=by omega
     clear hv hbt hlt;have hf:∀ w',Calls Tryz.prog 107 #[.int .u8 ((str sg)[2].toNat:Nat),.int .i64 c,.int .i64 m] w' (g_Q (b_S ch c m) w'):=fun w'=>by rw [hch];exact f_2 ch c m w'
     clear hch
     cases hb:b_S ch c m with
     | true =>
      have HS:=N239;rw [hb] at hf;clear hb hok hstep
      go_wp2_with fail
      refine (hf _).mono ?_;rintro e w' ⟨rfl,h⟩
      cases h
      go_wp2
      go_round
      case rel=>exact ⟨3,by omega,by go_num,HS.out⟩
      case measure=>simp [intOf]
     | false =>
      have HS:=hid (b_E (i:=((k:Int),a,b,c)) (m:=m) (k:=2) (by omega) (by rw [HOP.out,HV.out];exact hb));exact J68
    ·have hv:=N231;have j1:(sg.length:Int)≤2:=by omega
     clear hlt
     by_cases hz:c=0
     ·have HS:=N193;have q:(c != 0)=false:=by simpa using hz
      clear hz hv hok hstep
      go_wp2
      go_round
      case rel=>exact ⟨3,by omega,by go_num,HS.out⟩
      case measure=>simp [intOf]
     ·have HS:=hid (b_E (i:=((k:Int),a,b,c)) (m:=m) (k:=2) (by omega) (by rw [HOP.out,hv];exact decide_eq_false hz));have q:(c != 0)=true:=by simpa using hz
      clear hz hv hok hstep
      go_wp2
      go_ret
      exact a_k HS.out HB.out
   ·have HS:=N183;clear hok hstep
    go_wp2
    go_ret
    exact a_k HS.out HB.out
 ·have HS:=hid (o_D (i:=(op,a,b,c)) (m:=m) h0)
  go_enter Tryz.func65,Tryz.ntmps65
  go_wp2
  all_goals first
   | (exfalso;omega)
   | (go_ret;exact a_k HS.out (by go_grown))
end Go.Proofs.YtogdpojnbgeknaaGreatDoor
