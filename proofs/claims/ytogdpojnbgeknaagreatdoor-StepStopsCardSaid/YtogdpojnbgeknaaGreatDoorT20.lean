import Derived.Test.YtogdpojnbgeknaaGreatDoorT18
import Derived.Test.YtogdpojnbgeknaaGreatDoorT19
import Derived.Test.YtogdpojnbgeknaaGreatDoorT0
import Derived.Test.YtogdpojnbgeknaaGreatDoorT5
import Derived.Laws.AppendOwnNone
set_option maxRecDepth 100000
set_option maxHeartbeats 16000000
namespace Go.Proofs.YtogdpojnbgeknaaGreatDoor
open Go.ChangeShapes Go.WideShapes Go.ChangeAt Go.RowKit
open Gen
def opsL:List Value:=[.string ⟨#[]⟩,.nilFunc,.string ⟨#[114,110]⟩,.func (.func 131) #[] #[],.string ⟨#[114,114]⟩,.func (.func 132) #[] #[],.string ⟨#[114,114,110]⟩,.func (.func 133) #[] #[],.string ⟨#[114,114,110]⟩,.func (.func 134) #[] #[],.string ⟨#[114,114,114]⟩,.func (.func 135) #[] #[],.string ⟨#[114,114,114]⟩,.func (.func 136) #[] #[],.string ⟨#[114,114,114]⟩,.func (.func 137) #[] #[],.string ⟨#[114,114,114]⟩,.func (.func 138) #[] #[],.string ⟨#[114,114,114]⟩,.func (.func 139) #[] #[],.string ⟨#[116]⟩,.func (.func 140) #[] #[],.string ⟨#[114,116]⟩,.func (.func 141) #[] #[],.string ⟨#[114,116]⟩,.func (.func 142) #[] #[],.string ⟨#[116]⟩,.func (.func 143) #[] #[],.string ⟨#[]⟩,.func (.func 144) #[] #[],.string ⟨#[114]⟩,.func (.func 145) #[] #[]]
def fkL:List Nat:=[0,131,132,133,134,135,136,137,138,139,140,141,142,143,144,145]
def fk (k:Nat):Nat:=fkL.getD k 0
theorem s_M:opsL.toArray.all (·.oneCell')=true:=by simp [opsL,Value.oneCell']
theorem s_m (k:Nat) (h1:1≤k) (h2:k≤15):(Tryz.prog.funcs[fk k]?).map (fun fn=>(fn.name=="runtime.NumGoroutine",fn.body.isNone))=some (false,false):=by
 rcases (show k=1∨k=2∨k=3∨k=4∨k=5∨k=6∨k=7∨k=8∨k=9∨k=10∨k=11∨k=12∨k=13∨k=14∨k=15 by omega) with rfl | rfl | rfl | rfl | rfl | rfl | rfl | rfl | rfl | rfl | rfl | rfl | rfl | rfl | rfl <;> kernel_rfl
theorem p_k (k:Nat):(h_Z k).length≤3:=by
 by_cases h:k < 16
 ·rcases (show k=0∨k=1∨k=2∨k=3∨k=4∨k=5∨k=6∨k=7∨k=8∨k=9∨k=10∨k=11∨k=12∨k=13∨k=14∨k=15 by omega) with rfl | rfl | rfl | rfl | rfl | rfl | rfl | rfl | rfl | rfl | rfl | rfl | rfl | rfl | rfl | rfl <;> decide
 ·have:h_Z k=[]:=by
   unfold h_Z;rw [List.getD_eq_getElem?_getD,List.getElem?_eq_none (by simp;omega)];rfl
  rw [this];decide
theorem i_K (k:Nat) (h1:1≤k) (h2:k≤15) (w:World):(Instr.index 163 (.agg opsL.toArray) (.int .i64 (k:Nat))).run Tryz.prog w=.ok (.agg #[.string ⟨(h_Z k).toArray⟩,.func (.func (fk k)) #[] #[]]) w:=by
 rcases (show k=1∨k=2∨k=3∨k=4∨k=5∨k=6∨k=7∨k=8∨k=9∨k=10∨k=11∨k=12∨k=13∨k=14∨k=15 by omega) with rfl | rfl | rfl | rfl | rfl | rfl | rfl | rfl | rfl | rfl | rfl | rfl | rfl | rfl | rfl <;> simp [go_sem,Instr.index,part,opsL,h_Z,fk,fkL]
theorem r_x {P:Program} {o:Oper} {a:Act} {w:World} {K:Act→World→Prop} {Q:Exit→Act→World→Prop} (ty:TypeId) (x y:Operand) (ho:o.op=.index ty x y) (u v r:Value) (hx:a.eval x=u) (hy:a.eval y=v)
  (hr:(Instr.index ty u v).run P w=.ok r w) (h:K (a.put o.dst r) w):Oper.wp P o a w K Q:=by
 unfold Oper.wp;simp [execOp,ho,hx,hy,hr,Result.andThen];exact h
theorem h_C (w:World):Calls Tryz.prog 115 #[] w (fun e w'=>e=.returned (.agg opsL.toArray)∧Below w.heap.size w w'):=by
 obtain ⟨W,hW⟩:=nm (w.alloc (Obj.cells #[.string ⟨#[]⟩,.nilFunc,.string ⟨#[]⟩,.nilFunc,.string ⟨#[]⟩,.nilFunc,.string ⟨#[]⟩,.nilFunc,.string ⟨#[]⟩,.nilFunc,.string ⟨#[]⟩,.nilFunc,.string ⟨#[]⟩,.nilFunc,.string ⟨#[]⟩,.nilFunc,.string ⟨#[]⟩,.nilFunc,.string ⟨#[]⟩,.nilFunc,.string ⟨#[]⟩,.nilFunc,.string ⟨#[]⟩,.nilFunc,.string ⟨#[]⟩,.nilFunc,.string ⟨#[]⟩,.nilFunc,.string ⟨#[]⟩,.nilFunc,.string ⟨#[]⟩,.nilFunc] 163));have X:a_p W w.heap.size [.string ⟨#[]⟩,.nilFunc,.string ⟨#[]⟩,.nilFunc,.string ⟨#[]⟩,.nilFunc,.string ⟨#[]⟩,.nilFunc,.string ⟨#[]⟩,.nilFunc,.string ⟨#[]⟩,.nilFunc,.string ⟨#[]⟩,.nilFunc,.string ⟨#[]⟩,.nilFunc,.string ⟨#[]⟩,.nilFunc,.string ⟨#[]⟩,.nilFunc,.string ⟨#[]⟩,.nilFunc,.string ⟨#[]⟩,.nilFunc,.string ⟨#[]⟩,.nilFunc,.string ⟨#[]⟩,.nilFunc,.string ⟨#[]⟩,.nilFunc,.string ⟨#[]⟩,.nilFunc]:=by rw [hW];exact a_e [.string ⟨#[]⟩,.nilFunc,.string ⟨#[]⟩,.nilFunc,.string ⟨#[]⟩,.nilFunc,.string ⟨#[]⟩,.nilFunc,.string ⟨#[]⟩,.nilFunc,.string ⟨#[]⟩,.nilFunc,.string ⟨#[]⟩,.nilFunc,.string ⟨#[]⟩,.nilFunc,.string ⟨#[]⟩,.nilFunc,.string ⟨#[]⟩,.nilFunc,.string ⟨#[]⟩,.nilFunc,.string ⟨#[]⟩,.nilFunc,.string ⟨#[]⟩,.nilFunc,.string ⟨#[]⟩,.nilFunc,.string ⟨#[]⟩,.nilFunc,.string ⟨#[]⟩,.nilFunc] _ rfl
 have hB:=N2;have ⟨HX,HB,HW⟩:=hh3 X hB hW;clear hW X hB
 go_enter Tryz.func115,Tryz.ntmps115
 go_upto_region 1 with fail
 rw [←HW.out]
 go_wp2_with (refine a_c rfl 163 _ _ rfl w.heap.size opsL.toArray rfl rfl _ HX.out rfl (by kernel_rfl) s_M ?_;intro U HU)
 refine a_V (X:=.agg opsL.toArray) ⟨w.heap.size,0,none⟩ rfl rfl rfl ?_ ?_
 ·have h:=a_q (xs:=opsL) HX.out rfl;rw [show U=d_o W w.heap.size 0 opsL from HU.out];exact run_loadVar_mid _ _ 0 _ opsL _ (a_f h) Tryz.underlying163 rfl (by kernel_rfl)
 ·exact ⟨rfl,a_y HU (Nat.le_refl _) HB.out⟩
def j_5 (Q:Nat→Prop) (t:Thr) (x:Int) (w:World) (e:Ending) (w':World):Prop:=
 ∃ fa fn fc la ln lc,e=.returned (.tuple #[.agg (thC t fa fn fc la ln lc).toArray,.int .i64 x])∧ThQ Q w' fa fn fc la ln lc t∧Below w.heap.size w w'
theorem b_R {Q:Nat→Prop} {t z:Thr} {x:Int} {fa la:Option Addr} {fn fc ln lc:Nat} {w:World} {e:Ending} {w':World} (hf:z.fs=t.fs) (hl:z.lf=t.lf) (hx:x=0) (F:ThQ Q w fa fn fc la ln lc t) (h:i_2 z fa la fn fc ln lc 0 w e w'):j_5 Q z x w e w':=by
 subst hx;obtain ⟨e1,hb⟩:=h;have F':=a_w (a_C hb) F;exact ⟨fa,fn,fc,la,ln,lc,e1,⟨F'.fcap,by rw [hf];exact F'.fs,F'.lcap,by rw [hl];exact F'.lf⟩,hb⟩
theorem h_n {Q:Nat→Prop} {z:Thr} {x:Int} {w:World} {e:Ending} {w':World} (hQ:∀ b,w.heap.size≤b→Q b) (h:ThPostF z x w e w'):j_5 Q z x w e w':=by
 obtain ⟨fa,fc,la,lc,e1,F,hb⟩:=h;exact ⟨fa,_,fc,la,_,lc,e1,b_y hQ F,hb⟩
theorem h_Q (t:Thr) (b:Bool) (pc:Int):(brT t b pc).fs=t.fs∧(brT t b pc).lf=t.lf:=by unfold brT;split <;> exact ⟨rfl,rfl⟩
theorem q_h (Q:Nat→Prop) (t:Thr) (self:Int) (i:In4) (k:Nat) (fa la:Option Addr) (fn fc ln lc:Nat) (w:World) (hk:i.1=k) (h1:1≤k) (h2:k≤15) (hf:c_3 i=true) (hr:a_1 t=true)
  (F:ThQ Q w fa fn fc la ln lc t) (hQ:∀ b,w.heap.size≤b→Q b):Calls Tryz.prog (fk k) #[.agg (tkC t fa fn fc la ln lc self i).toArray] w (j_5 Q (doT t self i) (doE t i) w):=by
 obtain ⟨f1,f2,f3,f4,f5⟩:=b_Y hf (by omega) (by omega);have hp:=b_D hr;obtain ⟨o,A,B,C⟩:=i;simp only at hk f1 f2 f3 f4 f5
 rcases (show k=1∨k=2∨k=3∨k=4∨k=5∨k=6∨k=7∨k=8∨k=9∨k=10∨k=11∨k=12∨k=13∨k=14∨k=15 by omega) with rfl | rfl | rfl | rfl | rfl | rfl | rfl | rfl | rfl | rfl | rfl | rfl | rfl | rfl | rfl <;> obtain rfl:=hk
 ·exact (m_J t self (1,A,B,C) fa la fn fc ln lc w (f1 (by decide)) hp).mono fun e w' h=>b_R (t:=t) rfl rfl rfl F h
 ·exact (k_D t self (2,A,B,C) fa la fn fc ln lc w (f1 (by decide)) (f3 (by decide)) hp).mono fun e w' h=>b_R (t:=t) rfl rfl rfl F h
 ·exact (k_E t self (3,A,B,C) fa la fn fc ln lc w (f1 (by decide)) (f3 (by decide)) hp).mono fun e w' h=>b_R (t:=t) rfl rfl rfl F h
 ·exact (k_C t self (4,A,B,C) fa la fn fc ln lc w (f1 (by decide)) (f3 (by decide)) hp).mono fun e w' h=>b_R (t:=t) rfl rfl rfl F h
 ·exact (m_G t self (5,A,B,C) fa la fn fc ln lc w (f1 (by decide)) (f3 (by decide)) (f5 (by decide)) hp).mono fun e w' h=>b_R (t:=t) rfl rfl rfl F h
 ·exact (m_K t self (6,A,B,C) fa la fn fc ln lc w (f1 (by decide)) (f3 (by decide)) (f5 (by decide)) hp).mono fun e w' h=>b_R (t:=t) rfl rfl rfl F h
 ·exact (m_H t self (7,A,B,C) fa la fn fc ln lc w (f1 (by decide)) (f3 (by decide)) (f5 (by decide)) hp).mono fun e w' h=>b_R (t:=t) rfl rfl rfl F h
 ·exact (m_L t self (8,A,B,C) fa la fn fc ln lc w (f1 (by decide)) (f3 (by decide)) (f5 (by decide)) hp).mono fun e w' h=>b_R (t:=t) rfl rfl rfl F h
 ·exact (k_B t self (9,A,B,C) fa la fn fc ln lc w (f1 (by decide)) (f3 (by decide)) (f5 (by decide)) hp).mono fun e w' h=>b_R (t:=t) rfl rfl rfl F h
 ·exact (k_A t self (10,A,B,C) fa la fn fc ln lc w  hp).mono fun e w' h=>b_R (t:=t) rfl rfl rfl F h
 ·exact (k_H t self (11,A,B,C) fa la fn fc ln lc w (f1 (by decide)) hp).mono fun e w' h=>b_R (t:=t) (h_Q _ _ _).1 (h_Q _ _ _).2 rfl F h
 ·exact (k_F t self (12,A,B,C) fa la fn fc ln lc w (f1 (by decide)) hp).mono fun e w' h=>b_R (t:=t) (h_Q _ _ _).1 (h_Q _ _ _).2 rfl F h
 ·exact (k_z t self _ fa la fn fc ln lc w F.f).mono fun e w' h=>h_n hQ h
 ·exact (m_I t self _ fa la fn fc ln lc w F.f).mono fun e w' h=>h_n hQ h
 ·exact (k_G t self (15,A,B,C) fa la fn fc ln lc w (f1 (by decide)) hp).mono fun e w' h=>b_R (t:=t) rfl rfl rfl F h
theorem e_f {ops:Array Oper} {rest:List Oper} {o:Oper} {a:Act} {Q:Exit→Act→World→Prop} {w:World} (hgd:o.guard=none) (s x:Operand)
  (ho:o.op=.call { callee:=.builtin .append,args:=#[s,x],argTypes:=#[44,44] }) (base:Nat) (v:Value) (n:Nat) (xs:List Value) (hs:a.eval s=v) (hown:w.ownsRow base 105 5 v n xs)
  (fa:Option Addr) (m c:Nat) (ys:List Fr) (hx:a.eval x=.slice fa m c) (V:Vs repFr Any w fa m ys) (C:Cap fa m c) (hn:n+m≤1000) (hbase:base≤w.heap.size)
  (h:∀ v' w',w'.ownsRow base 105 5 v' (n+m) (xs++ys.flatMap d_8)→w.grownBy w' v.ownBlock→wpList Tryz.prog ops Q rest (a.put o.dst v') w'):wpList Tryz.prog ops Q (o::rest) a w:=by
 obtain ⟨i0,hi,hz0,hz1,hz2⟩:=N218
 cases fa with
 | none =>
  obtain rfl:c=0:=C.2.2 rfl;obtain rfl:m=0:=by have:=C.1;omega
  obtain rfl:ys=[]:=List.eq_nil_of_length_eq_zero V.1;refine wpList_append_own_none hgd s x 44 ho base 105 i0 5 Tryz.underlying44 hi v n xs hs hown hx (h v w ?_ (World.grownBy.refl _ _))
  simpa using hown
 | some p =>
  exact wpList_append_own w hgd s x 44 ho base 105 i0 (.agg #[.int .i64 0,.int .i64 0,.int .i64 0,.int .i64 0,.int .i64 0]) 5 40 Tryz.underlying44 hi hz0 hz1 hz2 rfl (by decide) v n xs hs hown p m c (ys.flatMap d_8) hx (by rw [o_s,V.1]) (i_c V p rfl) (o_V _) (by unfold maxLen;omega) (by omega) hbase (fun v' w' h1 h2 _=>h v' w' h1 h2)
def h_R (t:Thr):Int:=if t.fs.length=6 then 13 else 0
def g_q (t:Thr) (tg:Int):Thr:=if t.fs.length=6 then d_E else ⟨tg,t.r,t.fs++[(t.pc+1,t.r 4,t.r 5,t.r 6,t.r 7)],t.st,t.ft,t.lf⟩
def h_P (t:Thr):Int:=if t.fs.length=0 then 8 else 0
def g_U (t:Thr):Thr:=if t.fs.length=0 then d_E else ⟨(e_x t).1,j_B t.r (e_x t).2.1 (e_x t).2.2.1 (e_x t).2.2.2.1 (e_x t).2.2.2.2,t.fs.take (t.fs.length - 1),t.st,t.ft,t.lf⟩
end Go.Proofs.YtogdpojnbgeknaaGreatDoor
namespace Go.Proofs.YtogdpojnbgeknaaGreatDoor
open Go.ChangeShapes Go.WideShapes Go.ChangeAt Go.RowKit
open Gen
open Lib (hid)
def b_6 (Q:Nat→Prop) (t:Thr) (x:Int) (w:World) (e:Ending) (w':World):Prop:=
 ∃ fa fn fc la ln lc,e=.returned (.tuple #[.agg (thC t fa fn fc la ln lc).toArray,.int .i64 x])∧ThQ Q w' fa fn fc la ln lc t∧Below w.heap.size w w'
theorem i_f {Q:Nat→Prop} {t:Thr} {x y:Int} {w w':World} (ht:t=d_E) (hx:x=y) (hb:Below w.heap.size w w'):b_6 Q t x w (.returned (.tuple #[.agg thN.toArray,.int .i64 y])) w':=by
 subst ht;subst hx;exact ⟨none,0,0,none,0,0,rfl,⟨b_T,d_c,b_T,d_c⟩,hb⟩
theorem b_g {Q:Nat→Prop} {t z:Thr} {x y:Int} {w w':World} {fa la:Option Addr} {fn fc ln lc:Nat} (ht:z=t) (hx:x=y) (F:ThQ Q w' fa fn fc la ln lc t) (hb:Below w.heap.size w w'):b_6 Q z x w (.returned (.tuple #[.agg (thC t fa fn fc la ln lc).toArray,.int .i64 y])) w':=by
 subst ht;subst hx;exact ⟨fa,fn,fc,la,ln,lc,rfl,F,hb⟩
theorem i_F (QQ:Nat→Prop) (t:Thr) (tg:Int) (fa la:Option Addr) (fn fc ln lc:Nat) (w:World) (FQ:ThQ QQ w fa fn fc la ln lc t) (hQQ:∀ b,w.heap.size≤b→QQ b) (hf:fn≤1000) (hp:0≤t.pc∧t.pc≤1000) :
  Calls Tryz.prog 98 #[.agg (thC t fa fn fc la ln lc).toArray,.int .i64 tg] w (b_6 QQ (g_q t tg) (h_R t) w):=by
 have F:=FQ.f;have HQQ:=hid hQQ;have HFL:=hid FQ.lf.1;clear hQQ;obtain ⟨W,hW⟩:=nm ((w.alloc (Obj.cells (thC t fa fn fc la ln lc).toArray 46)).alloc (Obj.cells thN.toArray 46));have X:=N50;have R:=N14;have hB:=N2;have hz:=N84;have FW:=d_a hB F;have ⟨HX,HR,HB,HW,HZ,HF⟩:=hh6 X R hB hW hz FW;have HL:=hid (a_z (a_C hB) (c_O FQ.lf));clear hW X R hB F hz FW FQ
 go_enter Tryz.func98,Tryz.ntmps98
 go_upto_region 1 with fail
 rw [←HW.out];have k0:=(HX.out 0 _ rfl).1;have k1:=(HX.out 1 _ rfl).1;have k2:=(HX.out 2 _ rfl).1;have k3:=(HX.out 3 _ rfl).1;have k4:=(HX.out 4 _ rfl).1;have k5:=(HX.out 5 _ rfl).1;have k6:=(HX.out 6 _ rfl).1;have k7:=(HX.out 7 _ rfl).1;have k8:=(HX.out 8 _ rfl).1;have k9:=(HX.out 9 _ rfl).1;have k10:=(HX.out 10 _ rfl).1;have k11:=(HX.out 11 _ rfl).1;have k12:=(HX.out 12 _ rfl).1
 by_cases h6:fn=6
 ·subst h6;have HE:=hid (show h_R t=13 by rw [h_R,if_pos HF.out.fs.1]);have HT:=hid (show g_q t tg=d_E by rw [g_q,if_pos HF.out.fs.1]);exact J42
 ·have q6:((fn:Int)==6)=false:=by simp;omega
  have h6':¬ t.fs.length=6:=by rw [HF.out.fs.1];exact h6
  have HE:=hid (show h_R t=0 by rw [h_R,if_neg h6']);have HT:=hid (show g_q t tg=⟨tg,t.r,t.fs++[(t.pc+1,t.r 4,t.r 5,t.r 6,t.r 7)],t.st,t.ft,t.lf⟩ by rw [g_q,if_neg h6']);clear h6 h6';obtain ⟨W1,hW1⟩:=nm (W.alloc (Obj.cells #[] 105));have b1:=N195;have hz1:W1.heap.size=W.heap.size+1:=by rw [hW1];simp
  have V1:=g_B b1 HF.out.fs;have X1:=a_i b1 HX.out;have R1:=a_i b1 HR.out;have L1:=a_z (a_C b1) HL.out;have B1:=a_b HB.out b1;have O1:W1.ownsRow W.heap.size 105 5 (.slice (some ⟨W.heap.size,0,none⟩) 0 0) 0 []:=by rw [hW1];exact World.ownsRow_made W #[] 0 (Nat.le_refl _) (by decide) (by simp)
  have HW1:=hid hW1;have HC:=hid HF.out.fcap;clear hW1 b1
  go_upto_region 4 with fail
  rw [←HW1.out];clear k0 k1 k2 k3 k4 k5 k6 k7 k8 k9 k10 k11 k12;have k9:=(X1 9 _ rfl).1
  go_wp2_with (at_builtin;refine e_f rfl _ _ rfl W.heap.size _ 0 [] rfl O1 fa fn fc t.fs rfl V1 HC.out (by omega) (by omega) ?_)
  intro v2 W2 O2 hg2;have hz:=HZ.out;have ne1:∀ b,b < W.heap.size→(Value.slice (some ⟨W.heap.size,0,none⟩) 0 0).ownBlock≠some b:=fun b hb e=>by have:=a_9 O1 e;omega
  have X2:=b_A hg2 (ne1 _ (by omega)) X1;have R2:=b_A hg2 (ne1 _ (by omega)) R1;have L2:=a_z (c_Y hg2 (fun b hb=>ne1 b (by omega))) L1;have B2:=B1.grown hg2 B1.size (fun b hb=>by have:=a_9 O1 hb;omega);have hz2:W1.heap.size≤W2.heap.size:=hg2.size;have HWR:=hid (show IntKind.i64.wrap (t.pc+1)=t.pc+1 from IntWalk.i64_in _ (by omega));clear X1 R1 L1 B1 V1 hg2 ne1 k9 hp;have k0:=(X2 0 _ rfl).1;have k1:=(X2 1 _ rfl).1;have k2:=(X2 2 _ rfl).1;have k3:=(X2 3 _ rfl).1;have k4:=(X2 4 _ rfl).1;have k5:=(X2 5 _ rfl).1;have k6:=(X2 6 _ rfl).1;have k7:=(X2 7 _ rfl).1;have k8:=(X2 8 _ rfl).1;have k9:=(X2 9 _ rfl).1;have k10:=(X2 10 _ rfl).1;have k11:=(X2 11 _ rfl).1;have k12:=(X2 12 _ rfl).1;obtain ⟨i0,hi,hz0,hz1',hz2'⟩:=N218;have HI:=hid (And.intro hi (And.intro hz0 (And.intro hz1' hz2')));clear hi hz0 hz1' hz2'
  go_upto_region 5 with fail
  have hwr:=HWR.out
  go_wp2_with (at_builtin;refine wpList_append_own _ rfl _ _ 44 rfl W.heap.size 105 i0 (.agg #[.int .i64 0,.int .i64 0,.int .i64 0,.int .i64 0,.int .i64 0]) 5 40 Tryz.underlying44 HI.out.1 HI.out.2.1 HI.out.2.2.1 HI.out.2.2.2 rfl (by decide) v2 fn (t.fs.flatMap d_8) rfl (O2.alloc _) ⟨W2.heap.size,0,none⟩ 1 1 [.int .i64 (t.pc+1),.int .i64 (t.r 4),.int .i64 (t.r 5),.int .i64 (t.r 6),.int .i64 (t.r 7)] rfl rfl ?c2 ?c3 ?c4 ?c5 ?c6 ?_)
  case c2=>intro j u hu;rw [Gen.add_plain,Nat.zero_add];exact (a_e [.int .i64 (t.pc+1),.int .i64 (t.r 4),.int .i64 (t.r 5),.int .i64 (t.r 6),.int .i64 (t.r 7)] _ rfl j u hu).1
  case c3=>intro u hu;simp at hu;rcases hu with rfl | rfl | rfl | rfl | rfl <;> rfl
  case c4=>unfold maxLen;omega
  case c5=>omega
  case c6=>simp;omega
  intro v3 W3 O3 hg3 _;have ne3:∀ b,b < W.heap.size→v2.ownBlock≠some b:=fun b hb e=>by have:=a_9 O2 e;omega
  have X3:=b_A hg3 (ne3 _ (by omega)) (a_s _ X2);have R3:=b_A hg3 (ne3 _ (by omega)) (a_s _ R2);have L3:=a_z (c_Y hg3 (fun b hb=>ne3 b (by omega))) (u_r _ L2);have B3:=(B2.alloc B2.size (Obj.cells #[.int .i64 (t.pc+1),.int .i64 (t.r 4),.int .i64 (t.r 5),.int .i64 (t.r 6),.int .i64 (t.r 7)] 105)).grown hg3 (B2.alloc B2.size _).size (fun b hb=>by have:=a_9 O2 hb;omega);clear k0 k1 k2 k3 k4 k5 k6 k7 k8 k9 k10 k11 k12 X2 R2 L2 B2 O2 hg3 ne3 hwr O1;obtain ⟨fr,hfr⟩:∃ fr:Fr,fr=(t.pc+1,t.r 4,t.r 5,t.r 6,t.r 7):=⟨_,rfl⟩;have hcs:=N89;rw [hcs] at O3;have hlen:(t.fs++[fr]).length=fn+1:=by rw [List.length_append,HF.out.fs.1];rfl
  replace HT:Hid (g_q t tg=⟨tg,t.r,t.fs++[fr],t.st,t.ft,t.lf⟩):=by rw [hfr];exact HT
  obtain ⟨fa3,fc3,e3⟩:=c_D O3;subst e3;obtain ⟨Y1,hY1⟩:=nm (W3.setCell ⟨w.heap.size,9,none⟩ (.slice fa3 (fn+1) fc3));have X4:a_p Y1 w.heap.size (thC t fa3 (fn+1) fc3 la ln lc):=by rw [hY1];exact a_A X3 9 (by simp) _
  have R4:a_p Y1 (w.heap.size+1) thN:=by rw [hY1];exact a_m R3 (by omega) _
  have B4:=N169;have O4:Y1.ownsRow (w.heap.size+2) 105 5 (.slice fa3 (fn+1) fc3) (fn+1) ((t.fs++[fr]).flatMap d_8):=by rw [hY1];exact d_P O3 ⟨w.heap.size,9,none⟩ (b_Z O3 (.inr (by show w.heap.size < _;omega))) _
  have L4:=N125;obtain ⟨z9,f9⟩:=X3 9 _ rfl;have HY1:=hid hY1;clear hY1 X3 R3 L3 B3 O3
  go_upto_region 7 with fail
  rw [←HY1.out];clear z9 f9;obtain ⟨Y2,hY2⟩:=nm (Y1.setCell ⟨w.heap.size,0,none⟩ (.int .i64 tg));have X5:a_p Y2 w.heap.size [.int .i64 tg,.int .i64 (t.r 0),.int .i64 (t.r 1),.int .i64 (t.r 2),.int .i64 (t.r 3),.int .i64 (t.r 4),.int .i64 (t.r 5),.int .i64 (t.r 6),.int .i64 (t.r 7),.slice fa3 (fn+1) fc3,.int .i64 t.st,.int .i64 t.ft,.slice la ln lc]:=by rw [hY2];exact a_A X4 0 (by simp) _
  have R5:a_p Y2 (w.heap.size+1) thN:=by rw [hY2];exact a_m R4 (by omega) _
  have B5:=N170;have O5:Y2.ownsRow (w.heap.size+2) 105 5 (.slice fa3 (fn+1) fc3) (fn+1) ((t.fs++[fr]).flatMap d_8):=by rw [hY2];exact d_P O4 ⟨w.heap.size,0,none⟩ (b_Z O4 (.inr (by show w.heap.size < _;omega))) _
  have L5:=N126;obtain ⟨z0,f0⟩:=X4 0 _ rfl;obtain ⟨Y3,hY3⟩:=nm (d_o Y2 (w.heap.size+1) 0 [.int .i64 tg,.int .i64 (t.r 0),.int .i64 (t.r 1),.int .i64 (t.r 2),.int .i64 (t.r 3),.int .i64 (t.r 4),.int .i64 (t.r 5),.int .i64 (t.r 6),.int .i64 (t.r 7),.slice fa3 (fn+1) fc3,.int .i64 t.st,.int .i64 t.ft,.slice la ln lc]);have R6:a_p Y3 (w.heap.size+1) [.int .i64 tg,.int .i64 (t.r 0),.int .i64 (t.r 1),.int .i64 (t.r 2),.int .i64 (t.r 3),.int .i64 (t.r 4),.int .i64 (t.r 5),.int .i64 (t.r 6),.int .i64 (t.r 7),.slice fa3 (fn+1) fc3,.int .i64 t.st,.int .i64 t.ft,.slice la ln lc]:=by rw [hY3];exact a_q R5 rfl
  have B6:Below w.heap.size w Y3:=by rw [hY3];exact a_h (by omega) B5
  have O6:Y3.ownsRow (w.heap.size+2) 105 5 (.slice fa3 (fn+1) fc3) (fn+1) ((t.fs++[fr]).flatMap d_8):=by
   rw [hY3];exact a_Z (b_Z (p:=⟨w.heap.size+1,0,none⟩) O5 (.inr (by show w.heap.size+1 < _;omega))) O5
  have L6:Vs repInt QQ Y3 la ln t.lf:=by rw [hY3];exact b_e (fun _ h=>h.1) (a_z (a_t (fun b hb=>by omega)) L5)
  obtain ⟨fa4,fc4,e4,s1,s2,s3,s4⟩:=e_v (r:=repFr) O6 (f_G (t.fs++[fr])) (Q:=QQ) (fun b hb _=>HQQ.out b (by omega))
  injection e4 with e4 _ e5
  subst e4 e5;have HFIN:=hid (show a_p Y3 (w.heap.size+1) [.int .i64 tg,.int .i64 (t.r 0),.int .i64 (t.r 1),.int .i64 (t.r 2),.int .i64 (t.r 3),.int .i64 (t.r 4),.int .i64 (t.r 5),.int .i64 (t.r 6),.int .i64 (t.r 7),.slice fa3 (fn+1) fc3,.int .i64 t.st,.int .i64 t.ft,.slice la ln lc]∧ThQ QQ Y3 fa3 (fn+1) fc3 la ln lc ⟨tg,t.r,t.fs++[fr],t.st,t.ft,t.lf⟩∧Below w.heap.size w Y3 from ⟨R6,⟨⟨s1,s2,s3⟩,s4,HF.out.lcap,L6⟩,B6⟩);have ⟨HLEN,HY2,HY3,HX5,HR5⟩:=hh5 hlen hY2 hY3 X5 R5;clear hlen hcs hfr hY2 hY3 X4 X5 R4 R5 R6 B4 B5 B6 O4 O5 O6 L4 L5 L6 s1 s2 s3 s4
  go_upto_region 8 with fail
  rw [←HY2.out];clear z0 f0;have k0:=(HX5.out 0 _ rfl).1;have k1:=(HX5.out 1 _ rfl).1;have k2:=(HX5.out 2 _ rfl).1;have k3:=(HX5.out 3 _ rfl).1;have k4:=(HX5.out 4 _ rfl).1;have k5:=(HX5.out 5 _ rfl).1;have k6:=(HX5.out 6 _ rfl).1;have k7:=(HX5.out 7 _ rfl).1;have k8:=(HX5.out 8 _ rfl).1;have k9:=(HX5.out 9 _ rfl).1;have k10:=(HX5.out 10 _ rfl).1;have k11:=(HX5.out 11 _ rfl).1;have k12:=(HX5.out 12 _ rfl).1;obtain ⟨y0,g0⟩:=HR5.out 0 _ rfl;obtain ⟨y1,g1⟩:=HR5.out 1 _ rfl;obtain ⟨y2,g2⟩:=HR5.out 2 _ rfl;obtain ⟨y3,g3⟩:=HR5.out 3 _ rfl;obtain ⟨y4,g4⟩:=HR5.out 4 _ rfl;obtain ⟨y5,g5⟩:=HR5.out 5 _ rfl;obtain ⟨y6,g6⟩:=HR5.out 6 _ rfl;obtain ⟨y7,g7⟩:=HR5.out 7 _ rfl;obtain ⟨y8,g8⟩:=HR5.out 8 _ rfl;obtain ⟨y9,g9⟩:=HR5.out 9 _ rfl;obtain ⟨y10,g10⟩:=HR5.out 10 _ rfl;obtain ⟨y11,g11⟩:=HR5.out 11 _ rfl;obtain ⟨y12,g12⟩:=HR5.out 12 _ rfl
  go_wp2
  have hf:=HFIN.out;rw [HY3.out] at hf;have hL:=N240;refine a_l ⟨w.heap.size+1,0,none⟩ rfl rfl rfl hL ?_;exact b_g HT.out HE.out hf.2.1 hf.2.2
theorem i_E (QQ:Nat→Prop) (t:Thr) (fa la:Option Addr) (fn fc ln lc:Nat) (w:World) (FQ:ThQ QQ w fa fn fc la ln lc t) (hQQ:∀ b,w.heap.size≤b→QQ b) (hf:fn≤1000) :
  Calls Tryz.prog 99 #[.agg (thC t fa fn fc la ln lc).toArray] w (b_6 QQ (g_U t) (h_P t) w):=by
 have F:=FQ.f;have HQQ:=hid hQQ;have HFL:=hid FQ.lf.1;clear hQQ;obtain ⟨W,hW⟩:=nm ((w.alloc (Obj.cells (thC t fa fn fc la ln lc).toArray 46)).alloc (Obj.cells thN.toArray 46));have X:=N50;have R:=N14;have hB:=N2;have hz:=N84;have FW:=d_a hB F;have ⟨HX,HR,HB,HW,HZ,HF⟩:=hh6 X R hB hW hz FW;have HL:=hid (a_z (a_C hB) (c_O FQ.lf));clear hW X R hB F hz FW FQ
 go_enter Tryz.func99,Tryz.ntmps99
 go_upto_region 1 with fail
 rw [←HW.out];have k0:=(HX.out 0 _ rfl).1;have k1:=(HX.out 1 _ rfl).1;have k2:=(HX.out 2 _ rfl).1;have k3:=(HX.out 3 _ rfl).1;have k4:=(HX.out 4 _ rfl).1;have k5:=(HX.out 5 _ rfl).1;have k6:=(HX.out 6 _ rfl).1;have k7:=(HX.out 7 _ rfl).1;have k8:=(HX.out 8 _ rfl).1;have k9:=(HX.out 9 _ rfl).1;have k10:=(HX.out 10 _ rfl).1;have k11:=(HX.out 11 _ rfl).1;have k12:=(HX.out 12 _ rfl).1
 by_cases h6:fn=0
 ·subst h6;have HE:=hid (show h_P t=8 by rw [h_P,if_pos HF.out.fs.1]);have HT:=hid (show g_U t=d_E by rw [g_U,if_pos HF.out.fs.1]);exact J42
 ·have q6:((fn:Int)==0)=false:=by simp;omega
  have h6':¬ t.fs.length=0:=by rw [HF.out.fs.1];exact h6
  obtain ⟨b,o,x0,x1,x2,x3,x4,rfl,hx,c0,c1,c2,c3,c4⟩:=s_n HF.out.fs (show fn - 1 < fn by omega);have HE:=hid (show h_P t=0 by rw [h_P,if_neg h6'])
  have HT:=hid (show g_U t=⟨x0,j_B t.r x1 x2 x3 x4,t.fs.take (fn - 1),t.st,t.ft,t.lf⟩ by
   have hl:e_x t=(x0,x1,x2,x3,x4):=by rw [e_x,HF.out.fs.1,List.getD_eq_getElem?_getD,hx];rfl
   rw [g_U,if_neg h6',hl,HF.out.fs.1])
  have i1:(1:Int)≤fn:=by omega
  have i3:fn≤fc:=HF.out.fcap.1;have i4:fc≤9223372036854775807:=HF.out.fcap.2.1;clear h6 h6' hx;obtain ⟨W1,hW1⟩:=nm (W.alloc (Obj.cells #[.int .i64 x0,.int .i64 x1,.int .i64 x2,.int .i64 x3,.int .i64 x4] 105));have b1:=N195;have hz1:W1.heap.size=W.heap.size+1:=by rw [hW1];simp
  have V1:=g_B b1 HF.out.fs;have X1:=a_i b1 HX.out;have R1:=a_i b1 HR.out;have L1:=a_z (a_C b1) HL.out;have B1:=a_b HB.out b1;have F1:a_p W1 W.heap.size [.int .i64 x0,.int .i64 x1,.int .i64 x2,.int .i64 x3,.int .i64 x4]:=by rw [hW1];exact a_e [.int .i64 x0,.int .i64 x1,.int .i64 x2,.int .i64 x3,.int .i64 x4] _ rfl
  have ⟨HW1,HZ1⟩:=hh2 hW1 hz1;clear hW1 b1 hz1
  go_upto_region 5 with fail
  rw [←HW1.out];obtain ⟨W2,hW2⟩:=nm (W1.alloc (Obj.cells #[] 105));have b2:Below W1.heap.size W1 W2:=by rw [hW2];exact (Below.refl _ _).alloc (Nat.le_refl _) _
  have hz2:W2.heap.size=W1.heap.size+1:=by rw [hW2];simp
  have V2:=g_B b2 V1;have X2:=a_i b2 X1;have R2:=a_i b2 R1;have F2:=a_i b2 F1;have L2:=a_z (a_C b2) L1;have B2:=a_b B1 b2;have O2:W2.ownsRow W1.heap.size 105 5 (.slice (some ⟨W1.heap.size,0,none⟩) 0 0) 0 []:=by rw [hW2];exact World.ownsRow_made W1 #[] 0 (Nat.le_refl _) (by decide) (by simp)
  have ⟨HW2,HZ2⟩:=hh2 hW2 hz2;clear hW2 hz2 b2 k0 k1 k2 k3 k4 k5 k6 k7 k8 k9 k10 k11 k12 c0 c1 c2 c3 c4 V1 X1 R1 F1 L1 B1
  go_upto_region 6 with fail
  rw [←HW2.out];have k9:=(X2 9 _ rfl).1;have V2':=h_r V2 (fn - 1) (by omega);have C2:=N219;have j1:¬ ((fn:Int) - 1 < 0):=by omega
  have j2:(0:Int)≤(fn:Int) - 1:=by omega
  go_wp2_with (at_builtin;refine e_f rfl _ _ rfl W1.heap.size _ 0 [] rfl O2 (some ⟨b,o,none⟩) (fn - 1) fc (t.fs.take (fn - 1)) rfl V2' C2 (by omega) (by have:=HZ2.out;omega) ?_)
  intro v3 W3 O3 hg3;have hz:=HZ.out;have hz1:=HZ1.out;have hz2:=HZ2.out;have ne3:∀ b,b < W1.heap.size→(Value.slice (some ⟨W1.heap.size,0,none⟩) 0 0).ownBlock≠some b:=fun b hb e=>by have:=a_9 O2 e;omega
  have X3:=b_A hg3 (ne3 _ (by omega)) X2;have R3:=b_A hg3 (ne3 _ (by omega)) R2;have F3:=b_A hg3 (ne3 _ (by omega)) F2;have L3:=a_z (c_Y hg3 (fun b hb=>ne3 b (by omega))) L2;have B3:=B2.grown hg3 B2.size (fun b hb=>by have:=a_9 O2 hb;omega);clear X2 R2 L2 B2 O2 F2 V2 V2' hg3 ne3 k9;obtain ⟨fa3,fc3,e3⟩:=c_D O3;subst e3;obtain ⟨Y1,hY1⟩:=nm (W3.setCell ⟨w.heap.size,9,none⟩ (.slice fa3 (fn - 1) fc3));have X4:a_p Y1 w.heap.size (thC t fa3 (fn - 1) fc3 la ln lc):=by rw [hY1];exact a_A X3 9 (by simp) _
  have R4:a_p Y1 (w.heap.size+1) thN:=by rw [hY1];exact a_m R3 (by omega) _
  have F4:a_p Y1 W.heap.size [.int .i64 x0,.int .i64 x1,.int .i64 x2,.int .i64 x3,.int .i64 x4]:=by rw [hY1];exact a_m F3 (by omega) _
  have B4:=N169;have O4:Y1.ownsRow W1.heap.size 105 5 (.slice fa3 (fn - 1) fc3) (fn - 1) ((t.fs.take (fn - 1)).flatMap d_8):=by rw [hY1];exact d_P O3 ⟨w.heap.size,9,none⟩ (b_Z O3 (.inr (by show w.heap.size < _;omega))) _
  have L4:=N125;obtain ⟨z9,f9⟩:=X3 9 _ rfl;have HY1:=hid hY1;clear hY1 X3 R3 L3 B3 O3 F3 hz hz1 hz2
  go_upto_region 8 with fail
  rw [←HY1.out];clear z9 f9;have hz:=HZ.out;have hz1:=HZ1.out;obtain ⟨Y2,hY2⟩:=nm (Y1.setCell ⟨w.heap.size,0,none⟩ (.int .i64 x0));have X5:a_p Y2 w.heap.size [.int .i64 x0,.int .i64 (t.r 0),.int .i64 (t.r 1),.int .i64 (t.r 2),.int .i64 (t.r 3),.int .i64 (t.r 4),.int .i64 (t.r 5),.int .i64 (t.r 6),.int .i64 (t.r 7),.slice fa3 (fn - 1) fc3,.int .i64 t.st,.int .i64 t.ft,.slice la ln lc]:=by rw [hY2];exact a_A X4 0 (by simp) _
  have R5:a_p Y2 (w.heap.size+1) thN:=by rw [hY2];exact a_m R4 (by omega) _
  have F5:a_p Y2 W.heap.size [.int .i64 x0,.int .i64 x1,.int .i64 x2,.int .i64 x3,.int .i64 x4]:=by rw [hY2];exact a_m F4 (by omega) _
  have B5:=N170;have O5:Y2.ownsRow W1.heap.size 105 5 (.slice fa3 (fn - 1) fc3) (fn - 1) ((t.fs.take (fn - 1)).flatMap d_8):=by rw [hY2];exact d_P O4 ⟨w.heap.size,0,none⟩ (b_Z O4 (.inr (by show w.heap.size < _;omega))) _
  have L5:=N126;obtain ⟨z0,f0⟩:=X4 0 _ rfl;have v0:=(F4 0 _ rfl).1;have HY2:=hid hY2;clear hY2 X4 R4 F4 L4 B4 O4 hz hz1
  go_upto_region 9 with fail
  rw [←HY2.out];clear z0 f0 v0;have hz:=HZ.out;have hz1:=HZ1.out;obtain ⟨Y3,hY3⟩:=nm (d_o Y2 w.heap.size 1 [.int .i64 (t.r 0),.int .i64 (t.r 1),.int .i64 (t.r 2),.int .i64 (t.r 3),.int .i64 x1,.int .i64 x2,.int .i64 x3,.int .i64 x4]);have X6:a_p Y3 w.heap.size [.int .i64 x0,.int .i64 (t.r 0),.int .i64 (t.r 1),.int .i64 (t.r 2),.int .i64 (t.r 3),.int .i64 x1,.int .i64 x2,.int .i64 x3,.int .i64 x4,.slice fa3 (fn - 1) fc3,.int .i64 t.st,.int .i64 t.ft,.slice la ln lc]:=by rw [hY3];exact b_b (xs:=[.int .i64 (t.r 0),.int .i64 (t.r 1),.int .i64 (t.r 2),.int .i64 (t.r 3),.int .i64 x1,.int .i64 x2,.int .i64 x3,.int .i64 x4]) 1 X5 (by simp)
  have R6:a_p Y3 (w.heap.size+1) thN:=by rw [hY3];exact a_j (by omega) R5
  have B6:Below w.heap.size w Y3:=by rw [hY3];exact a_h (Nat.le_refl _) B5
  have O6:Y3.ownsRow W1.heap.size 105 5 (.slice fa3 (fn - 1) fc3) (fn - 1) ((t.fs.take (fn - 1)).flatMap d_8):=by rw [hY3];exact a_Z (b_Z (p:=⟨w.heap.size,0,none⟩) O5 (.inr (by show w.heap.size < _;omega))) O5
  have L6:Vs repInt (fun b=>QQ b∧b < w.heap.size) Y3 la ln t.lf:=by rw [hY3];exact a_z (a_t (fun b hb=>by omega)) L5
  obtain ⟨Y4,hY4⟩:=nm (d_o Y3 (w.heap.size+1) 0 [.int .i64 x0,.int .i64 (t.r 0),.int .i64 (t.r 1),.int .i64 (t.r 2),.int .i64 (t.r 3),.int .i64 x1,.int .i64 x2,.int .i64 x3,.int .i64 x4,.slice fa3 (fn - 1) fc3,.int .i64 t.st,.int .i64 t.ft,.slice la ln lc]);have R7:a_p Y4 (w.heap.size+1) [.int .i64 x0,.int .i64 (t.r 0),.int .i64 (t.r 1),.int .i64 (t.r 2),.int .i64 (t.r 3),.int .i64 x1,.int .i64 x2,.int .i64 x3,.int .i64 x4,.slice fa3 (fn - 1) fc3,.int .i64 t.st,.int .i64 t.ft,.slice la ln lc]:=by rw [hY4];exact a_q R6 rfl
  have B7:Below w.heap.size w Y4:=by rw [hY4];exact a_h (by omega) B6
  have O7:Y4.ownsRow W1.heap.size 105 5 (.slice fa3 (fn - 1) fc3) (fn - 1) ((t.fs.take (fn - 1)).flatMap d_8):=by rw [hY4];exact a_Z (b_Z (p:=⟨w.heap.size+1,0,none⟩) O6 (.inr (by show w.heap.size+1 < _;omega))) O6
  have L7:Vs repInt QQ Y4 la ln t.lf:=by rw [hY4];exact b_e (fun _ h=>h.1) (a_z (a_t (fun b hb=>by omega)) L6)
  obtain ⟨fa4,fc4,e4,s1,s2,s3,s4⟩:=e_v (r:=repFr) O7 (f_G (t.fs.take (fn - 1))) (Q:=QQ) (fun b hb _=>HQQ.out b (by omega))
  injection e4 with e4 _ e5
  subst e4 e5;have HFIN:=hid (show a_p Y4 (w.heap.size+1) [.int .i64 x0,.int .i64 (t.r 0),.int .i64 (t.r 1),.int .i64 (t.r 2),.int .i64 (t.r 3),.int .i64 x1,.int .i64 x2,.int .i64 x3,.int .i64 x4,.slice fa3 (fn - 1) fc3,.int .i64 t.st,.int .i64 t.ft,.slice la ln lc]∧ThQ QQ Y4 fa3 (fn - 1) fc3 la ln lc ⟨x0,j_B t.r x1 x2 x3 x4,t.fs.take (fn - 1),t.st,t.ft,t.lf⟩∧Below w.heap.size w Y4 from ⟨R7,⟨⟨s1,s2,s3⟩,s4,HF.out.lcap,L7⟩,B7⟩)
  have HLEN:Hid ((t.fs.take (fn - 1)).length=fn - 1):=by
   have h1:t.fs.length=fn:=HF.out.fs.1
   show (t.fs.take (fn - 1)).length=fn - 1
   rw [List.length_take];omega
  have HY3:Hid (Y3=((((((((Y2.setCell ⟨w.heap.size,1,none⟩ (.int .i64 (t.r 0))).setCell ⟨w.heap.size,2,none⟩ (.int .i64 (t.r 1))).setCell ⟨w.heap.size,3,none⟩ (.int .i64 (t.r 2))).setCell ⟨w.heap.size,4,none⟩ (.int .i64 (t.r 3))).setCell ⟨w.heap.size,5,none⟩ (.int .i64 x1)).setCell ⟨w.heap.size,6,none⟩ (.int .i64 x2)).setCell ⟨w.heap.size,7,none⟩ (.int .i64 x3)).setCell ⟨w.heap.size,8,none⟩ (.int .i64 x4))):=hY3;have ⟨HY4,HX5,HX6,HR6,HF5⟩:=hh5 hY4 X5 X6 R6 F5;clear hY3 hY4 X5 X6 R5 R6 R7 F5 B5 B6 B7 O5 O6 O7 L5 L6 L7 s1 s2 s3 s4 hz hz1;obtain ⟨k0,n0⟩:=HX5.out 0 _ rfl;obtain ⟨k1,n1⟩:=HX5.out 1 _ rfl;obtain ⟨k2,n2⟩:=HX5.out 2 _ rfl;obtain ⟨k3,n3⟩:=HX5.out 3 _ rfl;obtain ⟨k4,n4⟩:=HX5.out 4 _ rfl;obtain ⟨k5,n5⟩:=HX5.out 5 _ rfl;obtain ⟨k6,n6⟩:=HX5.out 6 _ rfl;obtain ⟨k7,n7⟩:=HX5.out 7 _ rfl;obtain ⟨k8,n8⟩:=HX5.out 8 _ rfl;have v0:=(HF5.out 0 _ rfl).1;have v1:=(HF5.out 1 _ rfl).1;have v2:=(HF5.out 2 _ rfl).1;have v3:=(HF5.out 3 _ rfl).1;have v4:=(HF5.out 4 _ rfl).1
  go_upto_region 10 with fail
  rw [←HY3.out];clear k0 k1 k2 k3 k4 k5 k6 k7 k8 n0 n1 n2 n3 n4 n5 n6 n7 n8 v0 v1 v2 v3 v4;have k0:=(HX6.out 0 _ rfl).1;have k1:=(HX6.out 1 _ rfl).1;have k2:=(HX6.out 2 _ rfl).1;have k3:=(HX6.out 3 _ rfl).1;have k4:=(HX6.out 4 _ rfl).1;have k5:=(HX6.out 5 _ rfl).1;have k6:=(HX6.out 6 _ rfl).1;have k7:=(HX6.out 7 _ rfl).1;have k8:=(HX6.out 8 _ rfl).1;have k9:=(HX6.out 9 _ rfl).1;have k10:=(HX6.out 10 _ rfl).1;have k11:=(HX6.out 11 _ rfl).1;have k12:=(HX6.out 12 _ rfl).1;obtain ⟨y0,g0⟩:=HR6.out 0 _ rfl;obtain ⟨y1,g1⟩:=HR6.out 1 _ rfl;obtain ⟨y2,g2⟩:=HR6.out 2 _ rfl;obtain ⟨y3,g3⟩:=HR6.out 3 _ rfl;obtain ⟨y4,g4⟩:=HR6.out 4 _ rfl;obtain ⟨y5,g5⟩:=HR6.out 5 _ rfl;obtain ⟨y6,g6⟩:=HR6.out 6 _ rfl;obtain ⟨y7,g7⟩:=HR6.out 7 _ rfl;obtain ⟨y8,g8⟩:=HR6.out 8 _ rfl;obtain ⟨y9,g9⟩:=HR6.out 9 _ rfl;obtain ⟨y10,g10⟩:=HR6.out 10 _ rfl;obtain ⟨y11,g11⟩:=HR6.out 11 _ rfl;obtain ⟨y12,g12⟩:=HR6.out 12 _ rfl
  go_wp2
  have hf:=HFIN.out;rw [HY4.out] at hf;have hL:=b_r _ _ ⟨x0,j_B t.r x1 x2 x3 x4,t.fs.take (fn - 1),t.st,t.ft,t.lf⟩ fa3 la (fn - 1) fc3 ln lc hf.1;refine a_l ⟨w.heap.size+1,0,none⟩ rfl rfl rfl hL ?_;exact b_g HT.out HE.out hf.2.1 hf.2.2
end Go.Proofs.YtogdpojnbgeknaaGreatDoor
