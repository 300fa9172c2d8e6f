import Derived.Test.YtogdpojnbgeknaaGreatDoorT7
import Derived.Test.YtogdpojnbgeknaaGreatDoorT5
import Derived.Test.YtogdpojnbgeknaaGreatDoorT0
import Derived.Deep.Strs
import Derived.Deep.QuietTactic
import Derived.Test.YtogdpojnbgeknaaGreatDoorT3
import Derived.Test.YtogdpojnbgeknaaGreatDoorT1
import Derived.Deep.MidRow
set_option maxRecDepth 100000
set_option maxHeartbeats 16000000
namespace Go.Proofs.YtogdpojnbgeknaaGreatDoor
open Go.RowKit
theorem k_t {α:Type} {l:List α} {k i:Nat} {x d:α} (h:k≠i):(l.set k x).getD i d=l.getD i d:=by
 simp only [List.getD_eq_getElem?_getD,List.getElem?_set,if_neg h]
theorem m_e {X:Wo} {k i:Nat} {t:Thr} (h:k≠i):thW (b_j X k t) i=thW X i:=k_t h
theorem r_f {X:Wo} {k i:Nat} (h:k≠i):thW (d_q X k) i=thW X i:=by
 unfold d_q d_5
 repeat' split
 all_goals first | exact m_e h | (show thW (b_j X k _) i=_;exact m_e h)
end Go.Proofs.YtogdpojnbgeknaaGreatDoor
namespace Go.Proofs.YtogdpojnbgeknaaGreatDoor
open Go.ChangeShapes Go.WideShapes Go.ChangeAt Go.RowKit
open Gen
open Lib (hid)
theorem e_M (v m:Int) (w:World):Calls Tryz.prog 130 #[.int .i64 v,.int .i64 m] w (g_Q (decide (0≤v∧v≤m)) w):=by
 go_enter Tryz.func130,Tryz.ntmps130
 exact J86
theorem j_l (t:Thr) (self:Int) (fa la:Option Addr) (fn fc ln lc:Nat) (w:World) (F:ThF w fa fn fc la ln lc t) :
  Calls Tryz.prog 113 #[.agg (thC t fa fn fc la ln lc).toArray,.int .i64 self] w (b_l (f_J t self) w):=by
 obtain ⟨W,hW⟩:=nm (w.alloc (Obj.cells (thC t fa fn fc la ln lc).toArray 46));have X:=N168;have hB:=N2;have FW:=hid (d_a hB F);have ⟨HX,HB,HW⟩:=hh3 X hB hW;clear hW X hB F
 go_enter Tryz.func113,Tryz.ntmps113
 go_upto_region 1 with fail
 rw [←HW.out];have k0:=(HX.out 0 _ rfl).1;have k1:=(HX.out 1 _ rfl).1;have k2:=(HX.out 2 _ rfl).1;have k3:=(HX.out 3 _ rfl).1;have k4:=(HX.out 4 _ rfl).1;have k5:=(HX.out 5 _ rfl).1;have k6:=(HX.out 6 _ rfl).1;have k7:=(HX.out 7 _ rfl).1;have k8:=(HX.out 8 _ rfl).1;have k9:=(HX.out 9 _ rfl).1;have k10:=(HX.out 10 _ rfl).1;have k11:=(HX.out 11 _ rfl).1;have k12:=(HX.out 12 _ rfl).1
 go_wp2_with fail
 refine (d_d t fa la fn fc ln lc _ FW.out).mono ?_;rintro e w1 ⟨rfl,hb1⟩;have HB1:=hid (a_b HB.out hb1);clear hb1
 cases h1:a_1 t with
 | false =>
  have H1:=hid h1;clear h1
  go_wp2
  go_ret
  exact a_k (by rw [f_J,H1.out];rfl) HB1.out
 | true =>
  have H1:=hid h1;clear h1
  go_wp2_with fail
  refine (e_M self 7 _).mono ?_;rintro e w2 ⟨rfl,h⟩
  cases h
  obtain ⟨b,hb⟩:=mn (decide (0≤self∧self≤7));rw [hb];have HBB:=hid hb;clear hb
  go_wp2
  go_ret
  exact a_k (by rw [f_J,H1.out,HBB.out];rfl) HB1.out
theorem g_5 (t:Thr) (fa la:Option Addr) (fn fc ln lc:Nat) (w:World) (hl:t.lf.length=ln) :
  Calls Tryz.prog 114 #[.agg (thC t fa fn fc la ln lc).toArray] w (b_l (d_1 t) w):=by
 have HL:=hid hl;clear hl
 go_enter Tryz.func114,Tryz.ntmps114
 go_wp2
 all_goals
  go_ret
  refine a_k ?_ (by go_grown);have e:d_1 t=(decide (t.st=0)&&decide (ln=0)):=by rw [d_1,HL.out]
  rw [e]
  try simp only [beq_iff_eq,beq_eq_false_iff_ne] at *
  rw [Bool.eq_iff_iff];simp
  try omega
theorem k_R (s:UInt8) (v:Int) (w:World):Calls Tryz.prog 146 #[.int .u8 s.toNat,.int .i64 v] w (g_Q (n_r s v) w):=by
 go_enter Tryz.func146,Tryz.ntmps146
 by_cases h1:s=114
 ·subst h1;have e:n_r 114 v=decide (0≤v∧v≤7):=rfl;rw [e]
  go_wp2_with fail
  refine (e_M v 7 _).mono ?_;rintro e w2 ⟨rfl,h⟩
  cases h
  go_wp2
  go_ret
  exact c_P (by simp)
 ·by_cases h2:s=110
  ·subst h2
   go_wp2
   go_ret
   exact c_P rfl
  ·have e:n_r s v=decide (0≤v∧v≤1000):=by rw [n_r,if_neg h1,if_neg h2]
   have q1:((s.toNat:Int)==114)=false:=by
    rw [beq_eq_false_iff_ne];intro q;apply h1;apply UInt8.toNat_inj.1;show s.toNat=114;omega
   have q2:((s.toNat:Int)==110)=false:=by
    rw [beq_eq_false_iff_ne];intro q;apply h2;apply UInt8.toNat_inj.1;show s.toNat=110;omega
   rw [e];clear h1 h2 e
   go_wp2_with fail
   refine (e_M v 1000 _).mono ?_;rintro e w2 ⟨rfl,h⟩
   cases h
   go_wp2
   go_ret
   exact c_P (by simp)
theorem s_q (i:In4) (k:Nat) (hk:k < 3):([.int .i64 i.2.1,.int .i64 i.2.2.1,.int .i64 i.2.2.2]:List Value)[k]?=some (.int .i64 (opd i k)):=by
 rcases (show k=0∨k=1∨k=2 by omega) with rfl | rfl | rfl <;> rfl
def i_0 (i:In4) (s:List UInt8) (k:Nat):Prop:=∀ j,j < k→n_r (s.getD j 0) (opd i j)=true
theorem k_p {i:In4} {s:List UInt8} {k:Nat} (h:i_0 i s k) (h1:n_r (s.getD k 0) (opd i k)=true):i_0 i s (k+1):=by
 intro j hj
 by_cases e:j=k
 ·subst e;exact h1
 ·exact h j (by omega)
theorem q_i {i:In4} {s:List UInt8} (h:i_0 i s s.length):g_y i s=true:=by
 simp only [g_y,List.all_eq_true,List.mem_range];exact h
theorem s_l {i:In4} {s:List UInt8} {k:Nat} (hk:k < s.length) (h1:n_r (s.getD k 0) (opd i k)=false):g_y i s=false:=by
 cases hr:g_y i s with
 | false=>rfl
 | true=>rw [s_k hr hk] at h1;cases h1
theorem l_F (i:In4) (s:List UInt8) (w:World) (hs:s.length≤3) :
  Calls Tryz.prog 116 #[.agg #[.int .i64 i.1,.int .i64 i.2.1,.int .i64 i.2.2.1,.int .i64 i.2.2.2],.string ⟨s.toArray⟩] w (b_l (g_y i s) w):=by
 obtain ⟨W,hW⟩:=nm (w.alloc (Obj.cells #[.int .i64 i.1,.int .i64 i.2.1,.int .i64 i.2.2.1,.int .i64 i.2.2.2] 66));have hB:=N2;have X:a_p W w.heap.size [.int .i64 i.1,.int .i64 i.2.1,.int .i64 i.2.2.1,.int .i64 i.2.2.2]:=by rw [hW];exact a_e [.int .i64 i.1,.int .i64 i.2.1,.int .i64 i.2.2.1,.int .i64 i.2.2.2] _ rfl
 obtain ⟨V,hV⟩:=nm (W.alloc (Obj.cells #[.int .i64 i.2.1,.int .i64 i.2.2.1,.int .i64 i.2.2.2] 151));have Y:a_p V W.heap.size [.int .i64 i.2.1,.int .i64 i.2.2.1,.int .i64 i.2.2.2]:=by rw [hV];exact a_e [.int .i64 i.2.1,.int .i64 i.2.2.1,.int .i64 i.2.2.2] _ rfl
 have hV2:Below W.heap.size W V:=by rw [hV];go_grown
 have HB:=hid (a_b hB hV2);have ⟨HX,HY,HW,HV⟩:=hh4 X Y hW hV;clear hW X hB hV Y hV2
 go_enter Tryz.func116,Tryz.ntmps116
 go_upto_region 1 with fail
 rw [←HW.out];have k0:=(HX.out 0 _ rfl).1;have k1:=(HX.out 1 _ rfl).1;have k2:=(HX.out 2 _ rfl).1;have k3:=(HX.out 3 _ rfl).1
 go_upto_region 2 with fail
 rw [←HV.out];clear k0 k1 k2 k3
 go_wp2
 go_loopw [16] (fun x wr=>∃ k:Nat,k≤s.length∧x=.int .i64 k∧Hid (i_0 i s k)∧Below V.heap.size V wr) (fun x _=>s.length - (intOf x).toNat)
 case atStart=>exact ⟨0,by omega,rfl,(show i_0 i s 0 from fun j hj=>by omega),Below.refl _ _⟩
 case round =>
  obtain ⟨k,hk,rfl,hf,hb⟩:=hrel
  by_cases hlt:k < s.length
  ·have i1:(0:Int)≤k:=by omega
   have i2:(k:Int) < s.length:=by omega
   have i3:(k:Int) < 3:=by omega
   have y:=((a_i hb HY.out) k _ (s_q i k (by omega))).1;have HB1:=hid (a_b HB.out hb);have hb':=hid hb;have hz:k < (⟨s.toArray⟩:ByteArray).size:=by show k < s.toArray.size;simpa using hlt
   have hu:(⟨s.toArray⟩:ByteArray)[k]=s.getD k 0:=by show s.toArray[k]'_=_;rw [List.getD_eq_getElem?_getD];simp [hlt]
   have q:=fun (d:Nat)=>k_R ((⟨s.toArray⟩:ByteArray)[k]) (opd i k) (wr.drewN d)
   rw [hu] at q;clear hb
   cases h0:n_r (s.getD k 0) (opd i k) with
   | true =>
    have HS:=hid (k_p hf.out h0);rw [h0,←hu] at q;clear h0 hu
    go_wp2
    go_quiet ((go_at_call 146;exact Calls.quiet_of_same (q _)))
    go_wp2
    go_roundw
    case rel=>exact ⟨k+1,by omega,by go_num,HS.out,b_3 hb'.out _⟩
    case measure=>simp [intOf];omega
   | false =>
    have HS:=hid (s_l hlt h0);rw [h0,←hu] at q;clear h0 hu
    go_wp2
    go_quiet ((go_at_call 146;exact Calls.quiet_of_same (q _)))
    go_wp2
    go_ret
    exact a_k HS.out (b_3 HB1.out _)
  ·obtain rfl:k=s.length:=by omega
   have HB1:=hid (a_b HB.out hb);clear hb
   go_wp2
   go_ret
   exact a_k (q_i hf.out) HB1.out
end Go.Proofs.YtogdpojnbgeknaaGreatDoor
namespace Go.Proofs.YtogdpojnbgeknaaGreatDoor
open Go.ChangeShapes Go.WideShapes Go.ChangeAt Go.RowKit
open Gen
theorem a_f {w:World} {g:Nat} {vs:List Value} (h:a_p w g vs):w.rangeAt g 0 vs:=fun j v hj=>by rw [Nat.zero_add];exact (h j v hj).1
theorem n_j {w:World} {g:Nat} {vs:List Value} (h:a_p w g vs) (n:Nat) (hn:n=vs.length):w.there g 0 n:=fun j hj=>by
 rw [Nat.zero_add];have hv:vs[j]?=some (vs[j]'(by omega)):=by simp [show j < vs.length by omega]
 obtain ⟨h1,h2⟩:=h j _ hv;exact ⟨by rw [h1];rfl,h2⟩
section
variable {P:Program} {ops:Array Oper} {o:Oper} {a:Act} {w:World} {K:Act→World→Prop} {Q:Exit→Act→World→Prop} {E:Prop}
theorem c_F {c:Prop} [Decidable c] {X Y:Prop} (hc:c) (h:X):if c then X else Y:=by rw [if_pos hc];exact h
theorem a_0 (ty:TypeId) (x y:Operand) (ho:o.op=.store ty x y) (g:Nat) (cells:Array Value) (hx:a.eval x=.pointer (some ⟨g,0,none⟩)) (hy:a.eval y=.agg cells)
  (vs:List Value) (hv:a_p w g vs) (hl:cells.size=vs.length) (hi:(P.info? ty).map (·.size)=some cells.size) (h1:cells.all (·.oneCell')=true)
  (h:∀ U,Hid (U=d_o w g 0 cells.toList)→K (a.put o.dst undef) U):Oper.wp P o a w K Q:=
 wp_store_mid ty x y ho g 0 cells hx hy (n_j hv _ hl) hi h1 (h _ (Lib.hid (e_6 _ _ _ _)))
theorem a_c {rest:List Oper} (hg:o.guard=none) (ty:TypeId) (x y:Operand) (ho:o.op=.store ty x y) (g:Nat) (cells:Array Value) (hx:a.eval x=.pointer (some ⟨g,0,none⟩)) (hy:a.eval y=.agg cells)
  (vs:List Value) (hv:a_p w g vs) (hl:cells.size=vs.length) (hi:(P.info? ty).map (·.size)=some cells.size) (h1:cells.all (·.oneCell')=true)
  (h:∀ U,Hid (U=d_o w g 0 cells.toList)→wpList P ops Q rest (a.put o.dst undef) U):wpList P ops Q (o::rest) a w:=
 wpList_plain hg fun _ hK=>a_0 ty x y ho g cells hx hy vs hv hl hi h1 (fun U hU=>hK _ _ (h U hU))
theorem a_O (x:Operand) (args:Array Operand) (aT:Array TypeId) (ho:o.op=Op.call { callee:=.value x,args:=args,argTypes:=aT })
  (f:FuncId) (hx:a.eval x=.func (.func f) #[] #[]) (vs:List Value) (hv:args.toList.map a.eval=vs) (hf:(P.funcs[f]?).map (fun fn=>(fn.name=="runtime.NumGoroutine",fn.body.isNone))=some (false,false))
  (h:Calls P f vs.toArray w (fun e w'=>∃ v,e=.returned v∧K (a.put o.dst v) w')):Oper.wp P o a w K Q:=by
 have e:(execOp a.eval o).run P w=.ok (.enter f vs.toArray) w:=by
  exact J50
 unfold Oper.wp;rw [e,Oper.upon_enter];exact h.mono (by rintro e w' ⟨v,rfl,hK⟩;exact hK)
end
end Go.Proofs.YtogdpojnbgeknaaGreatDoor
namespace Go.Proofs.YtogdpojnbgeknaaGreatDoor
open Go.ChangeShapes Go.WideShapes Go.ChangeAt Go.RowKit
open Gen
open Lib (hid)
def i_g (v:Int) (w:World) (e:Ending) (w':World):Prop:=e=.returned (.int .i64 v)∧Below w.heap.size w w'
theorem f_6 {v u:Int} {w w':World} (h:v=u) (hb:Below w.heap.size w w'):i_g v w (.returned (.int .i64 u)) w':=by subst h;exact ⟨rfl,hb⟩
def i_2 (t:Thr) (fa la:Option Addr) (fn fc ln lc:Nat) (x:Int) (w:World) (e:Ending) (w':World):Prop:=
 e=.returned (.tuple #[.agg (thC t fa fn fc la ln lc).toArray,.int .i64 x])∧Below w.heap.size w w'
theorem l_N (t:Thr) (self:Int) (i:In4) (fa la:Option Addr) (fn fc ln lc:Nat) (w:World) (h:0≤i.2.1∧i.2.1≤7) :
  Calls Tryz.prog 159 #[.agg (tkC t fa fn fc la ln lc self i).toArray] w (i_g (rgt t i.2.1) w):=by
 obtain ⟨j,hj,hj8⟩:=a_5 h;obtain ⟨W,hW⟩:=nm (w.alloc (Obj.cells (tkC t fa fn fc la ln lc self i).toArray 168));have X:=N96;have hB:=N2;have e:rgt t i.2.1=t.r j:=by rw [rgt,hj];rfl
 have kr:=(X (1+j) _ (c_H t.r j hj8 _ _)).1;have ki:=(X 15 _ rfl).1;rw [hj] at ki;have i1:(0:Int)≤j:=by omega
 have i2:(j:Int) < 8:=by omega
 have ⟨HB,HW,HE⟩:=hh3 hB hW e;clear hW X hB e h hj
 go_enter Tryz.func159,Tryz.ntmps159
 exact J85
theorem d_Y (t:Thr) (self:Int) (i:In4) (fa la:Option Addr) (fn fc ln lc:Nat) (w:World) (h:0≤i.2.2.1∧i.2.2.1≤7) :
  Calls Tryz.prog 155 #[.agg (tkC t fa fn fc la ln lc self i).toArray] w (i_g (rgt t i.2.2.1) w):=by
 obtain ⟨j,hj,hj8⟩:=a_5 h;obtain ⟨W,hW⟩:=nm (w.alloc (Obj.cells (tkC t fa fn fc la ln lc self i).toArray 168));have X:=N96;have hB:=N2;have e:rgt t i.2.2.1=t.r j:=by rw [rgt,hj];rfl
 have kr:=(X (1+j) _ (c_H t.r j hj8 _ _)).1;have ki:=(X 16 _ rfl).1;rw [hj] at ki;have i1:(0:Int)≤j:=by omega
 have i2:(j:Int) < 8:=by omega
 have ⟨HB,HW,HE⟩:=hh3 hB hW e;clear hW X hB e h hj
 go_enter Tryz.func155,Tryz.ntmps155
 exact J85
theorem f_I (t:Thr) (self:Int) (i:In4) (fa la:Option Addr) (fn fc ln lc:Nat) (w:World) (h:0≤i.2.2.2∧i.2.2.2≤7) :
  Calls Tryz.prog 156 #[.agg (tkC t fa fn fc la ln lc self i).toArray] w (i_g (rgt t i.2.2.2) w):=by
 obtain ⟨j,hj,hj8⟩:=a_5 h;obtain ⟨W,hW⟩:=nm (w.alloc (Obj.cells (tkC t fa fn fc la ln lc self i).toArray 168));have X:=N96;have hB:=N2;have e:rgt t i.2.2.2=t.r j:=by rw [rgt,hj];rfl
 have kr:=(X (1+j) _ (c_H t.r j hj8 _ _)).1;have ki:=(X 17 _ rfl).1;rw [hj] at ki;have i1:(0:Int)≤j:=by omega
 have i2:(j:Int) < 8:=by omega
 have ⟨HB,HW,HE⟩:=hh3 hB hW e;clear hW X hB e h hj
 go_enter Tryz.func156,Tryz.ntmps156
 exact J85
theorem a_K (t:Thr) (fa la:Option Addr) (fn fc ln lc:Nat):((thC t fa fn fc la ln lc).toArray:Array Value).all (·.oneCell')=true:=by simp [Value.oneCell']
theorem a_Q {w U:World} {g:Nat} {vs:List Value} {t:Thr} {fa la:Option Addr} {fn fc ln lc:Nat} (hU:Hid (U=d_o w g 0 (thC t fa fn fc la ln lc))) (h:a_p w g vs) (hl:vs.length=13) :
  (loadVar 46 ⟨g,0,none⟩).run Tryz.prog U=.ok (.agg (thC t fa fn fc la ln lc).toArray) U:=by
 rw [hU.out];exact b_r _ _ t fa la fn fc ln lc (a_q (xs:=(thC t fa fn fc la ln lc)) h (by rw [hl];rfl))
theorem a_y {w w' U:World} {F g:Nat} {vs:List Value} (hU:Hid (U=d_o w' g 0 vs)) (hg:F≤g) (h:Below F w w'):Below F w U:=by
 rw [hU.out];exact a_h hg h
theorem d_x (t:Thr) (self:Int) (i:In4) (pc:Int) (fa la:Option Addr) (fn fc ln lc:Nat) (w:World) :
  Calls Tryz.prog 157 #[.agg (tkC t fa fn fc la ln lc self i).toArray,.int .i64 pc] w (i_2 (goT t pc) fa la fn fc ln lc 0 w):=by
 obtain ⟨W,hW⟩:=nm ((w.alloc (Obj.cells (tkC t fa fn fc la ln lc self i).toArray 168)).alloc (Obj.cells thN.toArray 46));have X:=N18;have R:=N14;have hB:=N2;obtain ⟨V,hV⟩:=nm (W.setCell ⟨w.heap.size,0,none⟩ (.int .i64 pc));have X2:a_p V w.heap.size [.int .i64 (goT t pc).pc,.int .i64 ((goT t pc).r 0),.int .i64 ((goT t pc).r 1),.int .i64 ((goT t pc).r 2),.int .i64 ((goT t pc).r 3),.int .i64 ((goT t pc).r 4),.int .i64 ((goT t pc).r 5),.int .i64 ((goT t pc).r 6),.int .i64 ((goT t pc).r 7),.slice fa fn fc,.int .i64 (goT t pc).st,.int .i64 (goT t pc).ft,.slice la ln lc,.int .i64 self,.int .i64 i.1,.int .i64 i.2.1,.int .i64 i.2.2.1,.int .i64 i.2.2.2]:=by rw [hV];exact a_A X 0 (by simp) _
 have R2:a_p V (w.heap.size+1) thN:=by rw [hV];exact a_m R (by omega) _
 have hB2:Below w.heap.size w V:=by rw [hV];exact hB.setCell (p:=⟨w.heap.size,0,none⟩) (Nat.le_refl _) _
 obtain ⟨z,hz⟩:=mn (goT t pc);rw [hz] at X2 ⊢;have HX:=hid X
 have HX2:=hid (show a_p V w.heap.size (thC z fa fn fc la ln lc) from fun j v hj=>X2 j v (by
  rw [←hj];have:j < 13:=by have:=(List.getElem?_eq_some_iff.1 hj).1;simpa using this
  rcases (show j=0∨j=1∨j=2∨j=3∨j=4∨j=5∨j=6∨j=7∨j=8∨j=9∨j=10∨j=11∨j=12 by omega) with rfl | rfl | rfl | rfl | rfl | rfl | rfl | rfl | rfl | rfl | rfl | rfl | rfl <;> rfl))
 have ⟨HR2,HB,HW,HV⟩:=hh4 R2 hB2 hW hV;clear hW X R hB hV X2 R2 hB2 hz
 go_enter Tryz.func157,Tryz.ntmps157
 go_upto_region 1 with fail
 rw [←HW.out];obtain ⟨y0,g0⟩:=HX.out 0 _ rfl
 go_upto_region 2 with fail
 rw [←HV.out];clear y0 g0
 go_wp2_with (first | (refine wpList_load_mid rfl 46 _ rfl w.heap.size 0 rfl (thC z fa fn fc la ln lc) _ (a_f HX2.out) Tryz.underlying46 rfl (by kernel_rfl) ?_) | (refine a_c rfl 46 _ _ rfl (w.heap.size+1) (thC z fa fn fc la ln lc).toArray rfl rfl _ HR2.out rfl (by kernel_rfl) (a_K _ _ _ _ _ _ _) ?_;intro U HU))
 refine a_l ⟨w.heap.size+1,0,none⟩ rfl rfl rfl (a_Q HU HR2.out rfl) ?_;exact ⟨rfl,a_y HU (by omega) HB.out⟩
theorem b_n (t:Thr) (self:Int) (i:In4) (v:Int) (fa la:Option Addr) (fn fc ln lc:Nat) (w:World) (h:0≤i.2.1∧i.2.1≤7) (hp:0≤t.pc∧t.pc≤1000) :
  Calls Tryz.prog 154 #[.agg (tkC t fa fn fc la ln lc self i).toArray,.int .i64 v] w (i_2 (c_Z t i.2.1 v) fa la fn fc ln lc 0 w):=by
 obtain ⟨j,hj,hj8⟩:=a_5 h;obtain ⟨W,hW⟩:=nm ((w.alloc (Obj.cells (tkC t fa fn fc la ln lc self i).toArray 168)).alloc (Obj.cells thN.toArray 46));have X:=N18;have R:=N14;have hB:=N2;obtain ⟨u,hu⟩:∃ u:Thr,u=⟨t.pc,b_V t.r i.2.1 v,t.fs,t.st,t.ft,t.lf⟩:=⟨_,rfl⟩;obtain ⟨V,hV⟩:=nm (W.setCell ⟨w.heap.size,1+j,none⟩ (.int .i64 v))
 have X2:a_p V w.heap.size (tkC u fa fn fc la ln lc self i):=by
  have h1:=a_A X (1+j) (by simp;omega) (.int .i64 v);rw [k_3 t.r j hj8 v,←hV,←hj] at h1;rw [hu];exact h1
 have R2:a_p V (w.heap.size+1) thN:=by rw [hV];exact a_m R (by omega) _
 have hB2:Below w.heap.size w V:=by rw [hV];exact hB.setCell (p:=⟨w.heap.size,1+j,none⟩) (Nat.le_refl _) _
 obtain ⟨kr,fr⟩:=X (1+j) _ (c_H t.r j hj8 _ _);have ki:=(X 15 _ rfl).1;rw [hj] at ki;have i1:(0:Int)≤j:=by omega
 have i2:(j:Int) < 8:=by omega
 have e1:goT u (t.pc+1)=c_Z t i.2.1 v:=by rw [hu];rfl
 have e2:u.pc=t.pc:=by rw [hu]
 have ⟨HX2,HR2,HB,HW,HV⟩:=hh5 X2 R2 hB2 hW hV;have HE:=hid (And.intro e1 e2);have HP:=hid hp;clear hW X R hB hV X2 R2 hB2 hu e1 e2 hj h hp
 go_enter Tryz.func154,Tryz.ntmps154
 go_upto_region 1 with fail
 rw [←HW.out]
 go_upto_region 2 with fail
 rw [←HV.out];clear kr fr ki;have k0:=(HX2.out 0 _ rfl).1;have p1:0≤u.pc:=by rw [HE.out.2];exact HP.out.1
 have p2:u.pc≤1000:=by rw [HE.out.2];exact HP.out.2
 go_wp2_with (refine wpList_load_mid rfl 168 _ rfl w.heap.size 0 rfl (tkC u fa fn fc la ln lc self i) _ (a_f HX2.out) Tryz.underlying168 rfl (by kernel_rfl) ?_)
 refine (d_x u self i (u.pc+1) fa la fn fc ln lc _).mono ?_;rintro e w1 ⟨rfl,hb1⟩;have HB1:=hid (a_b HB.out hb1);have HR3:=hid (a_i hb1 HR2.out);clear hb1 k0;obtain ⟨z,hz⟩:=mn (goT u (u.pc+1));rw [hz];have hzz:z=c_Z t i.2.1 v:=by rw [←hz,HE.out.2,HE.out.1]
 have HZZ:=hid hzz;clear hz p1 p2 hzz
 go_wp2_with (refine a_c rfl 46 _ _ rfl (w.heap.size+1) (thC z fa fn fc la ln lc).toArray rfl rfl _ HR3.out rfl (by kernel_rfl) (a_K _ _ _ _ _ _ _) ?_;intro U HU)
 refine a_l ⟨w.heap.size+1,0,none⟩ rfl rfl rfl (a_Q HU HR3.out rfl) ?_;rw [←HZZ.out];exact ⟨rfl,a_y HU (by omega) HB1.out⟩
theorem e_P (t:Thr) (self:Int) (i:In4) (b:Bool) (fa la:Option Addr) (fn fc ln lc:Nat) (w:World) (hp:0≤t.pc∧t.pc≤1000) :
  Calls Tryz.prog 158 #[.agg (tkC t fa fn fc la ln lc self i).toArray,.bool b] w (i_2 (brT t b i.2.2.1) fa la fn fc ln lc 0 w):=by
 obtain ⟨W,hW⟩:=nm ((w.alloc (Obj.cells (tkC t fa fn fc la ln lc self i).toArray 168)).alloc (Obj.cells thN.toArray 46));have X:=N18;have R:=N14;have hB:=N2;have ⟨HX,HR,HB,HW⟩:=hh4 X R hB hW;have p1:=hp.1;have p2:=hp.2;clear hW X R hB hp
 go_enter Tryz.func158,Tryz.ntmps158
 go_upto_region 1 with fail
 rw [←HW.out];have k0:=(HX.out 0 _ rfl).1;have k16:=(HX.out 16 _ rfl).1
 cases b with
 | true =>
  go_wp2_with (refine wpList_load_mid rfl 168 _ rfl w.heap.size 0 rfl (tkC t fa fn fc la ln lc self i) _ (a_f HX.out) Tryz.underlying168 rfl (by kernel_rfl) ?_)
  refine (d_x t self i i.2.2.1 fa la fn fc ln lc _).mono ?_;rintro e w1 ⟨rfl,hb1⟩;have HB1:=hid (a_b HB.out hb1);have HR3:=hid (a_i hb1 HR.out);clear hb1 k0 k16;obtain ⟨z,hz⟩:=mn (goT t i.2.2.1);rw [hz];have hz2:brT t true i.2.2.1=z:=hz;exact J64
 | false =>
  go_wp2_with (refine wpList_load_mid rfl 168 _ rfl w.heap.size 0 rfl (tkC t fa fn fc la ln lc self i) _ (a_f HX.out) Tryz.underlying168 rfl (by kernel_rfl) ?_)
  refine (d_x t self i (t.pc+1) fa la fn fc ln lc _).mono ?_;rintro e w1 ⟨rfl,hb1⟩;have HB1:=hid (a_b HB.out hb1);have HR3:=hid (a_i hb1 HR.out);clear hb1 k0 k16;obtain ⟨z,hz⟩:=mn (goT t (t.pc+1));rw [hz];have hz2:brT t false i.2.2.1=z:=hz;exact J64
end Go.Proofs.YtogdpojnbgeknaaGreatDoor
namespace Go.Proofs.YtogdpojnbgeknaaGreatDoor
open Go.ChangeShapes Go.WideShapes Go.ChangeAt Go.RowKit
open Gen
theorem o_1 {g:Nat} {w0 w1 w2:World} {cs xs:List Value} (hb:Below g w0 w1∧a_p w1 g cs∧a_p w1 (g+1) xs∧xs.length=13) (hb2:Below w1.heap.size w1 w2) (hc:0 < cs.length):Below g w0 w2∧a_p w2 g cs∧a_p w2 (g+1) xs∧xs.length=13:=
 ⟨hb.1.trans (hb2.mono (Nat.le_of_lt (a_P hb.2.1 hc))),a_i hb2 hb.2.1,a_i hb2 hb.2.2.1,hb.2.2.2⟩
end Go.Proofs.YtogdpojnbgeknaaGreatDoor
namespace Go.Proofs.YtogdpojnbgeknaaGreatDoor
def c_I (a:Act):List (Option Tmp)→(Nat→Value)→Nat→Act
 | [],_,_=>a
 | s::l,vals,k=>c_I (a.put s (vals k)) l vals (k+1)
def b_M (l:List (Option Tmp)):List Tmp:=l.filterMap id
theorem d_0 (a:Act) (t:Tmp) (v:Value):(a.put (some t) v).tmps=a.tmps.setIfInBounds t v:=rfl
theorem c_U (l:List (Option Tmp)) (vals:Nat→Value):∀ (a:Act) (k:Nat),(c_I a l vals k).defers=a.defers:=by
 induction l with
 | nil=>intro a k;rfl
 | cons s l ih =>
  intro a k
  show (c_I (a.put s (vals k)) l vals (k+1)).defers=_
  rw [ih]
  cases s <;> rfl
theorem d_R (l:List (Option Tmp)) (vals:Nat→Value):∀ (a:Act) (k:Nat),(c_I a l vals k).tmps.size=a.tmps.size:=by
 induction l with
 | nil=>intro a k;rfl
 | cons s l ih =>
  intro a k
  show (c_I (a.put s (vals k)) l vals (k+1)).tmps.size=_
  rw [ih]
  cases s with
  | none=>rfl
  | some t=>rw [d_0,Array.size_setIfInBounds]
theorem c_S (t:Tmp) (l:List (Option Tmp)) (vals:Nat→Value):∀ (a:Act) (k:Nat),some t ∉ l→(c_I a l vals k).tmps[t]?=a.tmps[t]?:=by
 induction l with
 | nil=>intro a k _;rfl
 | cons s l ih =>
  intro a k h
  show (c_I (a.put s (vals k)) l vals (k+1)).tmps[t]?=_
  rw [ih _ _ (fun h2=>h (List.mem_cons_of_mem _ h2))]
  cases s with
  | none=>rfl
  | some u =>
   have hne:u≠t:=fun e=>h (by rw [e];exact List.mem_cons_self)
   rw [d_0,Array.getElem?_setIfInBounds_ne hne]
theorem c_6 (t:Tmp):∀ (l:List (Option Tmp)) (vals:Nat→Value) (a:Act) (k j:Nat),(b_M l).Nodup→l[j]?=some (some t)→t < a.tmps.size→(c_I a l vals k).tmps[t]?=some (vals (k+j))
 | [],_,_,_,_,_,h,_=>by simp at h
 | s::l,vals,a,k,0,hn,h,ht=>by
  obtain rfl:s=some t:=by simpa using h
  show (c_I (a.put (some t) (vals k)) l vals (k+1)).tmps[t]?=_
  have hn':t ∉ b_M l:=by
   have:(t::b_M l).Nodup:=hn;exact (List.nodup_cons.1 this).1
  rw [c_S t l vals _ _ (fun h2=>hn' (List.mem_filterMap.2 ⟨_,h2,rfl⟩)),d_0,Array.getElem?_setIfInBounds_self_of_lt ht];rfl
 | s::l,vals,a,k,j+1,hn,h,ht=>by
  show (c_I (a.put s (vals k)) l vals (k+1)).tmps[t]?=_
  have hn':(b_M l).Nodup:=by
   cases s with
   | none=>exact hn
   | some u=>exact (List.nodup_cons.1 (show (u::b_M l).Nodup from hn)).2
  have:=c_6 t l vals (a.put s (vals k)) (k+1) j hn' (by simpa using h) (by cases s with
   | none=>exact ht
   | some u=>rw [d_0,Array.size_setIfInBounds];exact ht)
  rw [this,show k+1+j=k+(j+1) by omega]
theorem n_H {a b:Act} (h1:a.tmps.size=b.tmps.size) (h2:∀ t:Nat,a.tmps[t]?=b.tmps[t]?) (h3:a.defers=b.defers):a=b:=by
 cases a;cases b
 simp only at h1 h2 h3;subst h3
 congr 1
 exact Array.ext_getElem? h2
theorem mem_tmps {l:List (Option Tmp)} {t:Tmp}:some t∈l ↔ ∃ j:Nat,l[j]?=some (some t):=List.mem_iff_getElem?
theorem l_T:∀ {l:List (Option Tmp)} {t:Tmp} {i j:Nat},(b_M l).Nodup→l[i]?=some (some t)→l[j]?=some (some t)→i=j
 | [],_,_,_,_,h,_=>by simp at h
 | s::l,t,0,0,_,_,_=>rfl
 | s::l,t,0,j+1,hn,h1,h2=>by
  obtain rfl:s=some t:=by simpa using h1
  exact absurd (show t∈b_M l from List.mem_filterMap.2 ⟨some t,List.mem_of_getElem? (show l[j]?=some (some t) by simpa using h2),rfl⟩) (List.nodup_cons.1 (show (t::b_M l).Nodup from hn)).1
 | s::l,t,i+1,0,hn,h1,h2=>by
  obtain rfl:s=some t:=by simpa using h2
  exact absurd (show t∈b_M l from List.mem_filterMap.2 ⟨some t,List.mem_of_getElem? (show l[i]?=some (some t) by simpa using h1),rfl⟩) (List.nodup_cons.1 (show (t::b_M l).Nodup from hn)).1
 | s::l,t,i+1,j+1,hn,h1,h2=>by
  have hn':(b_M l).Nodup:=by
   cases s with
   | none=>exact hn
   | some u=>exact (List.nodup_cons.1 (show (u::b_M l).Nodup from hn)).2
  have:=l_T hn' (show l[i]?=some (some t) by simpa using h1) (show l[j]?=some (some t) by simpa using h2)
  omega
theorem e_m {a:Act} {l:List (Option Tmp)} {vals:Nat→Value} {j:Nat} {s:Option Tmp} (hn:(b_M l).Nodup) (hj:l[j]?=some s) (v:Value):(c_I a l vals 0).put s v=c_I a l (fun i=>if i=j then v else vals i) 0:=by
 have hsz:∀ b:Act,((b.put s v).tmps.size=b.tmps.size):=fun b=>by cases s with
  | none=>rfl
  | some t=>rw [d_0,Array.size_setIfInBounds]
 refine n_H (by rw [hsz,d_R,d_R]) (fun t=>?_) (by
  rw [c_U]
  cases s with
  | none=>exact c_U _ _ _ _
  | some t=>exact c_U _ _ _ _)
 by_cases hm:some t∈l
 ·obtain ⟨i,hi⟩:=mem_tmps.1 hm
  by_cases ht:t < a.tmps.size
  ·rw [c_6 t l _ a 0 i hn hi ht];simp only [Nat.zero_add]
   by_cases e:s=some t
   ·subst e;have:=l_T hn hi hj;rw [if_pos this,d_0,Array.getElem?_setIfInBounds_self_of_lt (by rw [d_R];exact ht)]
   ·have hne:i≠j:=fun h=>e (by rw [h,hj] at hi;exact Option.some.inj hi)
    rw [if_neg hne];have h0:=c_6 t l vals a 0 i hn hi ht;rw [Nat.zero_add] at h0
    cases s with
    | none=>exact h0
    | some u=>rw [d_0,Array.getElem?_setIfInBounds_ne (fun h=>e (by rw [h]))];exact h0
  ·rw [Array.getElem?_eq_none_iff.2 (by rw [hsz,d_R];omega),Array.getElem?_eq_none_iff.2 (by rw [d_R];omega)]
 ·rw [c_S t l _ a 0 hm]
  cases s with
  | none=>exact c_S t l vals a 0 hm
  | some u =>
   have hne:u≠t:=fun h=>hm (by rw [←h];exact List.mem_of_getElem? hj)
   rw [d_0,Array.getElem?_setIfInBounds_ne hne];exact c_S t l vals a 0 hm
def e_D (a:Act) (l:List (Option Tmp)) (j:Nat):Value:=match l[j]? with
 | some (some t)=>a.tmps.getD t undef
 | _=>undef
theorem putL_first {a:Act} {l:List (Option Tmp)} (hn:(b_M l).Nodup):c_I a l (e_D a l) 0=a:=by
 refine n_H (d_R _ _ _ _) (fun t=>?_) (c_U _ _ _ _)
 by_cases hm:some t∈l
 ·obtain ⟨i,hi⟩:=mem_tmps.1 hm
  by_cases ht:t < a.tmps.size
  ·rw [c_6 t l _ a 0 i hn hi ht,Nat.zero_add,e_D,hi];simp [ht]
  ·rw [Array.getElem?_eq_none_iff.2 (by rw [d_R];omega),Array.getElem?_eq_none_iff.2 (by omega)]
 ·exact c_S t l _ a 0 hm
section
variable {P:Program} {ops:Array Oper} {Q:Exit→Act→World→Prop}
def InvV (l:List (Option Tmp)) (B:World→Prop) (V:Nat→Value→World→Prop) (a0:Act) (_:World) (listed:Array Bool) (a:Act) (w:World):Prop:=
 ∃ vals,a=c_I a0 l vals 0∧B w∧∀ k,k < l.length→Up listed k→V k (vals k) w
structure Came (l:List (Option Tmp)) (B:World→Prop) (V:Nat→Value→World→Prop) (a0:Act) (ws:List Nat) (a1:Act) (vals:Nat→Value) (w1:World):Prop where
 val:∀ j t,l[j]?=some (some t)→t < a0.tmps.size→a1.eval (.tmp t)=vals j
 old:∀ t,l.contains (some t)=false→a1.eval (.tmp t)=a0.eval (.tmp t)
 base:B w1
 dep:∀ j,j∈ws→V j (vals j) w1
theorem InvV.cons {l:List (Option Tmp)} {B:World→Prop} {V:Nat→Value→World→Prop} {a0:Act} {w0:World} {k:Nat} {o:Oper} {rest:List Oper} {ws:List Nat}
  (hw:c_A .any o=ws) (hl:l[k]?=some o.dst) (hn:decide (b_M l).Nodup=true) (hd:ws.all (fun j=>decide (j < l.length))=true)
  (h:∀ a1 vals w1,Came l B V a0 ws a1 vals w1→∀ K:Act→World→Prop,(∀ v w2,V k v w2→B w2→(∀ j u,j≠k→V j u w1→V j u w2)→K (a1.put o.dst v) w2) →
   if Region.wanted o (yielded ops a1.tmps)=true then Oper.wp P o a1 w1 K Q else K (a1.put o.dst undef) w1)
  (hs:StepsL P .any ops Q (InvV l B V a0 w0) (k+1) rest):StepsL P .any ops Q (InvV l B V a0 w0) k (o::rest):=by
 have hn:=of_decide_eq_true hn;refine StepsL.cons hw (fun listed a1 w1 hI hu hu2 K hK=>?_) hs;obtain ⟨vals,rfl,hb,hv⟩:=hI;refine h _ vals w1 ⟨fun j t hj ht=>?_,fun t ht=>?_,hb,fun j hj=>hv j (of_decide_eq_true (List.all_eq_true.1 hd j hj)) (hu2 j hj)⟩ K (fun v w2 h1 h2 h3=>?_)
 ·exact J34
 ·exact J20
 ·refine hK.out _ _ ⟨fun i=>if i=k then v else vals i,e_m hn hl v,h2,fun j hjl hj=>?_⟩
  show V j (if j=k then v else vals j) w2
  by_cases e:j=k
  ·subst e;rw [if_pos rfl];exact h1
  ·rw [if_neg e];exact h3 j _ e (hv j hjl (a_a hj e))
theorem e_s {id:Nat} {ol:List Oper} {a:Act} {w:World} (l:List (Option Tmp)) (B:World→Prop) (V:Nat→Value→World→Prop) (hm:P.follows .mixedOrders=true) (hb:i_l .any ol.toArray=true) (hn:decide (b_M l).Nodup=true) (hlen:l.length=ol.length)
  (h0:B w.drew) (hs:StepsL P .any ol.toArray Q (InvV l B V a w) 0 ol)
  (hend:∀ vals w',B w'→(∀ k,k < l.length→V k (vals k) w')→Q .normal (c_I a l vals 0) w'):(Code.region id ol.toArray true).wp P Q a w:=by
 refine b_s (InvV l B V) hm hb (fun listed hl=>⟨e_D a l,(putL_first (of_decide_eq_true hn)).symm,h0,fun k hkl hk=>?_⟩) hs (fun listed a' w' hI hu=>?_)
 ·exact absurd hk (hl k (by omega))
 ·obtain ⟨vals,rfl,h1,h2⟩:=hI;exact hend vals w' h1 (fun k hk=>h2 k hk (hu k))
theorem a_x {o:Oper} {a:Act} {w w':World} {K:Act→World→Prop} {v:Value} (h:(execOp a.eval o).run P w=.ok (.value v) w') (hK:K (a.put o.dst v) w'):Oper.wp P o a w K Q:=by
 unfold Oper.wp;rw [h];exact hK
theorem a_g {o:Oper} {a:Act} {w:World} {K:Act→World→Prop} {E:Prop} (hg:o.guard=none) (h:Oper.wp P o a w K Q):if Region.wanted o (yielded ops a.tmps)=true then Oper.wp P o a w K Q else E:=by
 rw [if_pos (by simp [Region.wanted,hg])];exact h
def VL (vl:List Value) (kS:Nat) (F:World→Prop) (k:Nat) (v:Value) (w:World):Prop:=if k=kS then F w else v=vl.getD k undef
section
variable {l:List (Option Tmp)} {B:World→Prop} {vl:List Value} {kS:Nat} {F:World→Prop} {a0 a1:Act} {ws:List Nat} {vals:Nat→Value} {w1 w2:World} {k:Nat} {K:Act→World→Prop} {dst:Option Tmp}
theorem h_I {v:Value} (h:VL vl kS F k v w1) (hne:(k==kS)=false):v=vl.getD k undef:=by
 have:k≠kS:=by simpa using hne
 rw [VL,if_neg this] at h;exact h
theorem got (C:Came l B (VL vl kS F) a0 ws a1 vals w1) (j t:Nat) (hj:l[j]?=some (some t)) (hs:Nat.blt t a0.tmps.size=true) (hm:ws.contains j=true) (hne:(j==kS)=false):a1.eval (.tmp t)=vl.getD j undef:=
 (C.val j t hj (by simpa [Nat.blt_eq] using hs)).trans (h_I (C.dep j (List.contains_iff_mem.1 hm)) hne)
theorem a_M (a:Act) (t:Tmp):a.tmps[t]?.getD undef=a.eval (.tmp t):=by show _=a.tmps.getD t undef;rw [Array.getD_eq_getD_getElem?]
theorem d_X (C:Came l B (VL vl kS F) a0 ws a1 vals w1) (j t:Nat) (hj:l[j]?=some (some t)) (hs:Nat.blt t a0.tmps.size=true) (hm:ws.contains j=true) (hne:(j==kS)=false):a1.tmps[t]?.getD undef=vl.getD j undef:=(a_M a1 t).trans (got C j t hj hs hm hne)
theorem c_x (hK:∀ v w2,VL vl kS F k v w2→B w2→(∀ j u,j≠k→VL vl kS F j u w1→VL vl kS F j u w2)→K (a1.put dst v) w2) {v:Value} (hv:v=vl.getD k undef) (hk:(k==kS)=false) (hB:B w2) (hF:F w1→F w2):K (a1.put dst v) w2:=by
 have hne:k≠kS:=by simpa using hk
 refine hK v w2 (by rw [VL,if_neg hne];exact hv) hB (fun j u _ h=>?_);unfold VL at h ⊢
 by_cases e:j=kS
 ·rw [if_pos e] at h ⊢;exact hF h
 ·rw [if_neg e] at h ⊢;exact h
theorem a_J (hK:∀ v w2,VL vl kS F k v w2→B w2→(∀ j u,j≠k→VL vl kS F j u w1→VL vl kS F j u w2)→K (a1.put dst v) w2) (C:Came l B (VL vl kS F) a0 ws a1 vals w1) {v:Value} (hv:v=vl.getD k undef) (hk:(k==kS)=false):K (a1.put dst v) w1:=c_x hK hv hk C.base id
theorem d_C (hK:∀ v w2,VL vl kS F kS v w2→B w2→(∀ j u,j≠kS→VL vl kS F j u w1→VL vl kS F j u w2)→K (a1.put dst v) w2) {v:Value} (hF:F w2) (hB:B w2):K (a1.put dst v) w2:=
 hK v w2 (by rw [VL,if_pos rfl];exact hF) hB (fun j u e h=>by unfold VL at h ⊢;rw [if_neg e] at h ⊢;exact h)
end
end
end Go.Proofs.YtogdpojnbgeknaaGreatDoor
