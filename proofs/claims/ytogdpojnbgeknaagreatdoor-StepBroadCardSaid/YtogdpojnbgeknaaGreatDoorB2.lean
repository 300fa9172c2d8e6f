import Derived.Test.YtogdpojnbgeknaaGreatDoorB1
import Derived.Test.YtogdpojnbgeknaaGreatDoorB0
import Derived.Deep.RegionHeld3
import Derived.Deep.DrawnRows
import Derived.Maps.AppendAt
import Derived.IntWalk
set_option maxRecDepth 100000
set_option maxHeartbeats 16000000
namespace Go.Proofs.YtogdpojnbgeknaaGreatDoor
open Go.ChangeShapes Go.WideShapes Go.ChangeAt Go.RowKit
open Gen
open Lib (hid)
def t_U (t:Thr) (x:Int) (w:World) (e:Ending) (w':World):Prop:=
 ∃ fa fc la lc,e=.returned (.tuple #[.agg (thC t fa t.fs.length fc la t.lf.length lc).toArray,.int .i64 x])∧ThF w' fa t.fs.length fc la t.lf.length lc t∧Below w.heap.size w w'
structure ThQ (Q:Nat→Prop) (w:World) (fa:Option Addr) (fn fc:Nat) (la:Option Addr) (ln lc:Nat) (t:Thr):Prop where
 fcap:Cap fa fn fc
 fs:Vs repFr Q w fa fn t.fs
 lcap:Cap la ln lc
 lf:Vs repInt Q w la ln t.lf
theorem ThQ.f {Q:Nat→Prop} {w:World} {fa la:Option Addr} {fn fc ln lc:Nat} {t:Thr} (h:ThQ Q w fa fn fc la ln lc t):ThF w fa fn fc la ln lc t:=⟨h.fcap,d_9 h.fs,h.lcap,d_9 h.lf⟩
theorem a_v {Q:Nat→Prop} {w w':World} {fa la:Option Addr} {fn fc ln lc:Nat} {t:Thr} (hk:Kept Q w w') (h:ThQ Q w fa fn fc la ln lc t):ThQ Q w' fa fn fc la ln lc t:=⟨h.fcap,a_B hk h.fs,h.lcap,a_B hk h.lf⟩
theorem b_t {Q Q':Nat→Prop} {w:World} {fa la:Option Addr} {fn fc ln lc:Nat} {t:Thr} (hQ:∀ b,Q b→Q' b) (h:ThQ Q w fa fn fc la ln lc t):ThQ Q' w fa fn fc la ln lc t:=⟨h.fcap,b_e hQ h.fs,h.lcap,b_e hQ h.lf⟩
def ThPostF (t:Thr) (x:Int) (w:World) (e:Ending) (w':World):Prop:=
 ∃ fa fc la lc,e=.returned (.tuple #[.agg (thC t fa t.fs.length fc la t.lf.length lc).toArray,.int .i64 x])∧ThQ (fun b=>w.heap.size≤b) w' fa t.fs.length fc la t.lf.length lc t∧Below w.heap.size w w'
theorem ThPostF.post {t:Thr} {x:Int} {w w':World} {e:Ending} (h:ThPostF t x w e w'):t_U t x w e w':=by
 obtain ⟨fa,fc,la,lc,h1,h2,h3⟩:=h;exact ⟨fa,fc,la,lc,h1,h2.f,h3⟩
theorem i_p {t t':Thr} {x x':Int} {w w':World} {e:Ending} (ht:t=t') (hx:x=x') (h:ThPostF t' x' w e w'):ThPostF t x w e w':=by subst ht;subst hx;exact h
theorem b_0 {t:Thr} {x y:Int} {w w':World} (ht:t=d_z) (hx:x=y) (hb:Below w.heap.size w w'):ThPostF t x w (.returned (.tuple #[.agg thN.toArray,.int .i64 y])) w':=by
 subst ht;subst hx;exact ⟨none,0,none,0,rfl,⟨b_W,d_h,b_W,d_h⟩,hb⟩
def e_p (t:Thr):Int:=if a_R t=true then (if t.fs.length=0 then 8 else 0) else 1
def e_I (t:Thr):Fr:=t.fs.getD (t.fs.length - 1) (0,0,0,0,0)
def g_a (t:Thr):Thr:=if e_p t=0 then ⟨(e_I t).1,j_Z t.r (e_I t).2.1 (e_I t).2.2.1 (e_I t).2.2.2.1 (e_I t).2.2.2.2,t.fs.take (t.fs.length - 1),t.st,t.ft,t.lf⟩ else d_z
theorem i_A {t:Thr} (h:e_p t≠0):g_a t=d_z:=by rw [g_a,if_neg h]
theorem d_l {t:Thr} (h:a_R t=true):t.fs.length≤6∧t.lf.length≤8:=by
 simp only [a_R,Bool.and_eq_true] at h;exact ⟨l_m h.1.1.2,l_n h.2⟩
def u_1 (t:Thr) (fs:List Fr) (w:World) (e:Ending) (w':World):Prop:=
 ∃ fa fc la lc,e=.returned (.agg (thC t fa fs.length fc la t.lf.length lc).toArray)∧Cap fa fs.length fc∧Vs repFr (fun b=>w.heap.size≤b) w' fa fs.length fs∧Cap la t.lf.length lc∧Vs repInt (fun b=>w.heap.size≤b) w' la t.lf.length t.lf∧Below w.heap.size w w'
theorem m_M (t:Thr) (fs:List Fr) (fa la:Option Addr) (fn fc ln lc:Nat) (w:World) (hf:Cap fa fn fc) (S:Vs repFr Any w fa fn fs) (hl:Cap la ln lc) (L:Vs repInt Any w la ln t.lf) (h1:fn≤1000) (h2:ln≤1000) :
  Calls Tryz.prog 165 #[.agg (thC t fa fn fc la ln lc).toArray] w (u_1 t fs w):=
 (h_6 ⟨t.pc,t.r,fs,t.st,t.ft,t.lf⟩ fa la fn fc ln lc w ⟨hf,S,hl,L⟩ h1 h2).mono (fun _ _ ⟨fa2,fc2,la2,lc2,h,a,_,c,d,e',f⟩=>⟨fa2,fc2,la2,lc2,h,a,c,d,b_e (fun _ h=>h.1) e',f⟩)
theorem k_Q (t:Thr) (fa la:Option Addr) (fn fc ln lc:Nat) (w:World) (F:ThF w fa fn fc la ln lc t) :
  Calls Tryz.prog 161 #[.agg (thC t fa fn fc la ln lc).toArray] w (ThPostF (g_a t) (e_p t) w):=by
 obtain ⟨W,hW⟩:=nm ((w.alloc (Obj.cells (thC t fa fn fc la ln lc).toArray 46)).alloc (Obj.cells thN.toArray 46));have X:=N51;have R:=N14;have hB:=N2;have hz:=N85;have FW:=d_b hB F;have ⟨HX,HR,HB,HW,HZ,HF⟩:=hh6 X R hB hW hz F;clear hW X R hB F hz
 go_enter Tryz.func161,Tryz.ntmps161
 go_upto_region 1 with fail
 rw [←HW.out];have k0:=(HX.out 0 _ rfl).1;have k1:=(HX.out 1 _ rfl).1;have k2:=(HX.out 2 _ rfl).1;have k3:=(HX.out 3 _ rfl).1;have k4:=(HX.out 4 _ rfl).1;have k5:=(HX.out 5 _ rfl).1;have k6:=(HX.out 6 _ rfl).1;have k7:=(HX.out 7 _ rfl).1;have k8:=(HX.out 8 _ rfl).1;have k9:=(HX.out 9 _ rfl).1;have k10:=(HX.out 10 _ rfl).1;have k11:=(HX.out 11 _ rfl).1;have k12:=(HX.out 12 _ rfl).1
 cases hr:a_R t with
 | false =>
  have HE:=hid (show e_p t=1 by rw [e_p,if_neg (by rw [hr];decide)]);have H1:=hid hr;clear hr
  go_wp2_with fail
  refine (d_i t fa la fn fc ln lc _ FW).mono ?_;rintro e w1 ⟨rfl,hb1⟩;rw [H1.out];have HR1:=hid (a_h hb1 HR.out);have HB1:=hid (a_a HB.out hb1);clear hb1 FW k0 k1 k2 k3 k4 k5 k6 k7 k8 k9 k10 k11 k12;exact J38
 | true =>
  have HL:=hid (d_l hr);have H1:=hid hr;clear hr
  go_wp2_with fail
  refine (d_i t fa la fn fc ln lc _ FW).mono ?_;rintro e w1 ⟨rfl,hb1⟩;rw [H1.out];have hz1:=hb1.size;rw [HZ.out] at hz1;have X1:=a_h hb1 HX.out;have HX1:=hid X1;have HR1:=hid (a_h hb1 HR.out);have HB1:=hid (a_a HB.out hb1);have F1:=d_b hb1 FW;have hfn:t.fs.length=fn:=F1.fs.1;have hln:t.lf.length=ln:=F1.lf.1;have hn6:fn≤6:=by have:=HL.out.1;omega
  have hl8:ln≤8:=by have:=HL.out.2;omega
  have ⟨HFN,HLN⟩:=hh2 hfn hln;clear hb1 FW k0 k1 k2 k3 k4 k5 k6 k7 k8 k9 k10 k11 k12 hfn hln;have k9:=(X1 9 _ rfl).1;clear X1
  by_cases h0:fn=0
  ·have HE:=hid (show e_p t=8 by rw [e_p,if_pos H1.out,if_pos (by rw [HFN.out];exact h0)]);subst h0;clear F1;exact J38
  ·obtain ⟨b,o,x0,x1,x2,x3,x4,rfl,hx,c0,c1,c2,c3,c4⟩:=q_D F1.fs (show fn - 1 < fn by omega);have HE:=hid (show e_p t=0 by rw [e_p,if_pos H1.out,if_neg (by rw [HFN.out];exact h0)])
   have HT:=hid (show g_a t=⟨x0,j_Z t.r x1 x2 x3 x4,t.fs.take (fn - 1),t.st,t.ft,t.lf⟩ by
    have hl:e_I t=(x0,x1,x2,x3,x4):=by rw [e_I,HFN.out,List.getD_eq_getElem?_getD,hx];rfl
    rw [g_a,if_pos HE.out,hl,HFN.out])
   have i1:(1:Int)≤fn:=by omega
   have i2:¬ ((fn:Int) - 1 < 0):=by omega
   have i3:fn≤fc:=F1.fcap.1;have i4:fc≤9223372036854775807:=F1.fcap.2.1;have HF1:=hid F1;clear F1 hx h0;obtain ⟨Z0,hZ0⟩:=nm (w1.alloc (Obj.cells #[.int .i64 x0,.int .i64 x1,.int .i64 x2,.int .i64 x3,.int .i64 x4] 105));have b0:Below w1.heap.size w1 Z0:=by rw [hZ0];exact (Below.refl _ _).alloc (Nat.le_refl _) _
   have V0:a_p Z0 w1.heap.size [.int .i64 x0,.int .i64 x1,.int .i64 x2,.int .i64 x3,.int .i64 x4]:=by rw [hZ0];exact a_e [.int .i64 x0,.int .i64 x1,.int .i64 x2,.int .i64 x3,.int .i64 x4] _ rfl
   have hzz:Z0.heap.size=w1.heap.size+1:=by rw [hZ0];simp
   have X2:=a_h b0 HX1.out;have R2:=a_h b0 HR1.out;have B2:=a_a HB1.out b0;have F2:=d_b b0 HF1.out;have ⟨HZ0,HX2⟩:=hh2 hZ0 X2;clear hZ0
   go_upto_region 7 with fail
   rw [←HZ0.out];clear k9 c0 c1 c2 c3 c4;obtain ⟨k9,g9⟩:=X2 9 _ rfl;obtain ⟨Z1,hZ1⟩:=nm (Z0.setCell ⟨w.heap.size,9,none⟩ (.slice (some ⟨b,o,none⟩) (fn - 1) fc));have Q1:∀ bb,bb < w.heap.size∨w.heap.size+2≤bb→bb≠w.heap.size:=fun bb hb=>by omega
   have X3:a_p Z1 w.heap.size (thC t (some ⟨b,o,none⟩) (fn - 1) fc la ln lc):=by rw [hZ1];exact a_y X2 9 (by simp) _
   have R3:a_p Z1 (w.heap.size+1) thN:=by rw [hZ1];exact a_l R2 (by omega) _
   have V3:a_p Z1 w1.heap.size [.int .i64 x0,.int .i64 x1,.int .i64 x2,.int .i64 x3,.int .i64 x4]:=by rw [hZ1];exact a_l V0 (by omega) _
   have B3:Below w.heap.size w Z1:=by rw [hZ1];exact B2.setCell (p:=⟨w.heap.size,9,none⟩) (Nat.le_refl _) _
   have S3:Vs repFr Any Z1 (some ⟨b,o,none⟩) (fn - 1) (t.fs.take (fn - 1)):=g_u B3 (j_b HF.out.fs (fn - 1) (by omega));have L3:Vs repInt Any Z1 la ln t.lf:=g_u B3 HF.out.lf;have C3:=N225;have C4:Cap la ln lc:=HF.out.lcap;have hz3:Z1.heap.size=w1.heap.size+1:=by rw [hZ1,←hzz];simp [World.setCell]
   have ⟨HZ1,HX3,HR3,HV3,HB3,HZ3⟩:=hh6 hZ1 X3 R3 V3 B3 hz3;clear hZ1 X2 R2 B2 F2 X3 R3 V3 B3 b0 V0 hzz Q1 hz3
   go_upto_region 8 with fail
   rw [←HZ1.out];clear k9 g9;have k0:=(HX3.out 0 _ rfl).1;have k1:=(HX3.out 1 _ rfl).1;have k2:=(HX3.out 2 _ rfl).1;have k3:=(HX3.out 3 _ rfl).1;have k4:=(HX3.out 4 _ rfl).1;have k5:=(HX3.out 5 _ rfl).1;have k6:=(HX3.out 6 _ rfl).1;have k7:=(HX3.out 7 _ rfl).1;have k8:=(HX3.out 8 _ rfl).1;have k9:=(HX3.out 9 _ rfl).1;have k10:=(HX3.out 10 _ rfl).1;have k11:=(HX3.out 11 _ rfl).1;have k12:=(HX3.out 12 _ rfl).1
   go_wp2_with fail
   have h0:=m_M t (t.fs.take (fn - 1)) (some ⟨b,o,none⟩) la (fn - 1) fc ln lc Z1 C3 S3 C4 L3 (by omega) (by omega);with_reducible refine h0.mono ?_
   clear h0;rintro e w2 ⟨fa2,fc2,la2,lc2,rfl,d1,d2,d3,d4,hb2⟩;obtain ⟨fn2,hfn2⟩:=mn ((t.fs.take (fn - 1)).length);obtain ⟨ln2,hln2⟩:=mn (t.lf.length);rw [hfn2] at d1 d2 ⊢;rw [hln2] at d3 d4 ⊢;have hz2:=hb2.size;rw [HZ3.out] at hz2;obtain ⟨Y0,hY0⟩:=nm (w2.alloc (Obj.cells (thC t fa2 fn2 fc2 la2 ln2 lc2).toArray 46));have bY0:=N191;have K0:a_p Y0 w2.heap.size (thC t fa2 fn2 fc2 la2 ln2 lc2):=by rw [hY0];exact a_e (thC t fa2 fn2 fc2 la2 ln2 lc2) _ rfl
   have X4:=a_h bY0 (a_h hb2 HX3.out);have R4:=a_h bY0 (a_h hb2 HR3.out);have V4:=a_h bY0 (a_h hb2 HV3.out);have B4:=a_a (a_a HB3.out hb2) bY0;have S4:=a_B (a_C bY0) (b_e (Q':=fun b=>w1.heap.size+1≤b∧b < w2.heap.size) (fun b hb=>by have:=HZ3.out;omega) (c_S d2));have L4:=a_B (a_C bY0) (b_e (Q':=fun b=>w1.heap.size+1≤b∧b < w2.heap.size) (fun b hb=>by have:=HZ3.out;omega) (c_S d4));obtain ⟨Y1,hY1⟩:=nm (Y0.setCell ⟨w2.heap.size,0,none⟩ (.int .i64 x0));have K1:a_p Y1 w2.heap.size (.int .i64 x0::((thC t fa2 fn2 fc2 la2 ln2 lc2):List Value).tail):=by rw [hY1];exact a_y K0 0 (by simp) _
   have X5:a_p Y1 w.heap.size (thC t (some ⟨b,o,none⟩) (fn - 1) fc la ln lc):=by rw [hY1];exact a_l X4 (by omega) _
   have R5:a_p Y1 (w.heap.size+1) thN:=by rw [hY1];exact a_l R4 (by omega) _
   have V5:a_p Y1 w1.heap.size [.int .i64 x0,.int .i64 x1,.int .i64 x2,.int .i64 x3,.int .i64 x4]:=by rw [hY1];exact a_l V4 (by omega) _
   have B5:Below w.heap.size w Y1:=by rw [hY1];exact B4.setCell (p:=⟨w2.heap.size,0,none⟩) (by show _≤w2.heap.size;omega) _
   have S5:Vs repFr (fun b=>w1.heap.size+1≤b∧b < w2.heap.size) Y1 fa2 fn2 (t.fs.take (fn - 1)):=by rw [hY1];exact a_B (a_U _ _ _ (fun b hb=>by show b≠w2.heap.size;omega)) S4
   have L5:Vs repInt (fun b=>w1.heap.size+1≤b∧b < w2.heap.size) Y1 la2 ln2 t.lf:=by rw [hY1];exact a_B (a_U _ _ _ (fun b hb=>by show b≠w2.heap.size;omega)) L4
   have ⟨HFN2,HLN2,HY0,HY1,HK1,HX5,HR5,HV5,HB5,HS5,HL5⟩:=hh11 hfn2 hln2 hY0 hY1 K1 X5 R5 V5 B5 S5 L5;have HD:=hid (And.intro d1 d3);have v0:=(V4 0 _ rfl).1;obtain ⟨z0,f0⟩:=K0 0 _ rfl;clear hY0 hY1 K1 X4 R4 V4 B4 S4 L4 K0 X5 R5 V5 B5 S5 L5 d1 d2 d3 d4 hb2 bY0 k0 k1 k2 k3 k4 k5 k6 k7 k8 k9 k10 k11 k12 hfn2 hln2 S3 L3 C3 C4
   go_upto_region 9 with fail
   rw [←HY0.out]
   go_upto_region 10 with fail
   rw [←HY1.out];clear v0 z0 f0;have k0:=(HX5.out 0 _ rfl).1;have k1:=(HX5.out 1 _ rfl).1;have k2:=(HX5.out 2 _ rfl).1;have k3:=(HX5.out 3 _ rfl).1;have k4:=(HX5.out 4 _ rfl).1;have k5:=(HX5.out 5 _ rfl).1;have k6:=(HX5.out 6 _ rfl).1;have k7:=(HX5.out 7 _ rfl).1;have k8:=(HX5.out 8 _ rfl).1;have v0:=(HV5.out 0 _ rfl).1;have v1:=(HV5.out 1 _ rfl).1;have v2:=(HV5.out 2 _ rfl).1;have v3:=(HV5.out 3 _ rfl).1;have v4:=(HV5.out 4 _ rfl).1
   go_wp2_with fail
   have h0:=j_0 t.r x1 x2 x3 x4 Y1;with_reducible refine h0.mono ?_
   clear h0;rintro e w3 ⟨rfl,hb3⟩;obtain ⟨r2,hr2⟩:=mn (j_Z t.r x1 x2 x3 x4);rw [hr2];have HR2:=hid hr2;have hz5:Y1.heap.size≤w3.heap.size:=hb3.size;have K2:=a_h hb3 HK1.out;have R6:=a_h hb3 HR5.out;have B6:=a_a HB5.out hb3;have S6:=g_u hb3 HS5.out;have L6:=g_u hb3 HL5.out;obtain ⟨U,hU⟩:=nm (d_u w3 w2.heap.size 1 (rgC r2));have K3:a_p U w2.heap.size [.int .i64 x0,.int .i64 (r2 0),.int .i64 (r2 1),.int .i64 (r2 2),.int .i64 (r2 3),.int .i64 (r2 4),.int .i64 (r2 5),.int .i64 (r2 6),.int .i64 (r2 7),.slice fa2 fn2 fc2,.int .i64 t.st,.int .i64 t.ft,.slice la2 ln2 lc2]:=by rw [hU];exact b_c (xs:=(rgC r2)) 1 K2 (by simp)
   have R7:a_p U (w.heap.size+1) thN:=by rw [hU];exact a_j (by omega) R6
   have B7:Below w.heap.size w U:=by rw [hU];exact a_g (by omega) B6
   have S7:Vs repFr (fun b=>w1.heap.size+1≤b∧b < w2.heap.size) U fa2 fn2 (t.fs.take (fn - 1)):=by rw [hU];exact a_B (a_u (fun b hb=>by omega)) S6
   have L7:Vs repInt (fun b=>w1.heap.size+1≤b∧b < w2.heap.size) U la2 ln2 t.lf:=by rw [hU];exact a_B (a_u (fun b hb=>by omega)) L6
   have ⟨HK3,HR7⟩:=hh2 K3 R7;obtain ⟨U2,hU2⟩:=nm (d_u U (w.heap.size+1) 0 [.int .i64 x0,.int .i64 (r2 0),.int .i64 (r2 1),.int .i64 (r2 2),.int .i64 (r2 3),.int .i64 (r2 4),.int .i64 (r2 5),.int .i64 (r2 6),.int .i64 (r2 7),.slice fa2 fn2 fc2,.int .i64 t.st,.int .i64 t.ft,.slice la2 ln2 lc2]);have R8:a_p U2 (w.heap.size+1) [.int .i64 x0,.int .i64 (r2 0),.int .i64 (r2 1),.int .i64 (r2 2),.int .i64 (r2 3),.int .i64 (r2 4),.int .i64 (r2 5),.int .i64 (r2 6),.int .i64 (r2 7),.slice fa2 fn2 fc2,.int .i64 t.st,.int .i64 t.ft,.slice la2 ln2 lc2]:=by rw [hU2];exact a_q R7 rfl
   have HFIN:Hid (a_p U2 (w.heap.size+1) [.int .i64 x0,.int .i64 (r2 0),.int .i64 (r2 1),.int .i64 (r2 2),.int .i64 (r2 3),.int .i64 (r2 4),.int .i64 (r2 5),.int .i64 (r2 6),.int .i64 (r2 7),.slice fa2 fn2 fc2,.int .i64 t.st,.int .i64 t.ft,.slice la2 ln2 lc2]∧ThQ (fun b=>w.heap.size≤b) U2 fa2 fn2 fc2 la2 ln2 lc2 ⟨x0,r2,t.fs.take (fn - 1),t.st,t.ft,t.lf⟩∧Below w.heap.size w U2):=
    ⟨R8,⟨HD.out.1,b_e (Q:=fun b=>w1.heap.size+1≤b∧b < w2.heap.size) (fun b hb=>by omega) (by rw [hU2];exact a_B (a_u (fun b hb=>by omega)) S7),HD.out.2,b_e (Q:=fun b=>w1.heap.size+1≤b∧b < w2.heap.size) (fun b hb=>by omega) (by rw [hU2];exact a_B (a_u (fun b hb=>by omega)) L7)⟩,by rw [hU2];exact a_g (by omega) B7⟩
   have ⟨HU,HU2,HK2⟩:=hh3 hU hU2 K2;clear hU hU2 K2 R6 B6 S6 L6 K3 R7 B7 S7 L7 R8 hb3 k0 k1 k2 k3 k4 k5 k6 k7 k8 v0 v1 v2 v3 v4 hr2;obtain ⟨y0,g0⟩:=HK2.out 0 _ rfl;obtain ⟨y1,g1⟩:=HK2.out 1 _ rfl;obtain ⟨y2,g2⟩:=HK2.out 2 _ rfl;obtain ⟨y3,g3⟩:=HK2.out 3 _ rfl;obtain ⟨y4,g4⟩:=HK2.out 4 _ rfl;obtain ⟨y5,g5⟩:=HK2.out 5 _ rfl;obtain ⟨y6,g6⟩:=HK2.out 6 _ rfl;obtain ⟨y7,g7⟩:=HK2.out 7 _ rfl;obtain ⟨y8,g8⟩:=HK2.out 8 _ rfl
   go_upto_region 11 with fail
   have HU':Hid (U=(((((((w3.setCell ⟨w2.heap.size,1,none⟩ (.int .i64 (r2 0))).setCell ⟨w2.heap.size,2,none⟩ (.int .i64 (r2 1))).setCell ⟨w2.heap.size,3,none⟩ (.int .i64 (r2 2))).setCell ⟨w2.heap.size,4,none⟩ (.int .i64 (r2 3))).setCell ⟨w2.heap.size,5,none⟩ (.int .i64 (r2 4))).setCell ⟨w2.heap.size,6,none⟩ (.int .i64 (r2 5))).setCell ⟨w2.heap.size,7,none⟩ (.int .i64 (r2 6))).setCell ⟨w2.heap.size,8,none⟩ (.int .i64 (r2 7))):=HU.out;rw [←HU'.out];clear y0 y1 y2 y3 y4 y5 y6 y7 y8 g0 g1 g2 g3 g4 g5 g6 g7 g8;have k0:=(HK3.out 0 _ rfl).1;have k1:=(HK3.out 1 _ rfl).1;have k2:=(HK3.out 2 _ rfl).1;have k3:=(HK3.out 3 _ rfl).1;have k4:=(HK3.out 4 _ rfl).1;have k5:=(HK3.out 5 _ rfl).1;have k6:=(HK3.out 6 _ rfl).1;have k7:=(HK3.out 7 _ rfl).1;have k8:=(HK3.out 8 _ rfl).1;have k9:=(HK3.out 9 _ rfl).1;have k10:=(HK3.out 10 _ rfl).1;have k11:=(HK3.out 11 _ rfl).1;have k12:=(HK3.out 12 _ rfl).1;obtain ⟨y0,g0⟩:=HR7.out 0 _ rfl;obtain ⟨y1,g1⟩:=HR7.out 1 _ rfl;obtain ⟨y2,g2⟩:=HR7.out 2 _ rfl;obtain ⟨y3,g3⟩:=HR7.out 3 _ rfl;obtain ⟨y4,g4⟩:=HR7.out 4 _ rfl;obtain ⟨y5,g5⟩:=HR7.out 5 _ rfl;obtain ⟨y6,g6⟩:=HR7.out 6 _ rfl;obtain ⟨y7,g7⟩:=HR7.out 7 _ rfl;obtain ⟨y8,g8⟩:=HR7.out 8 _ rfl;obtain ⟨y9,g9⟩:=HR7.out 9 _ rfl;obtain ⟨y10,g10⟩:=HR7.out 10 _ rfl;obtain ⟨y11,g11⟩:=HR7.out 11 _ rfl;obtain ⟨y12,g12⟩:=HR7.out 12 _ rfl
   go_wp2
   have hf:=HFIN.out;rw [HU2.out] at hf;have hL:=b_s _ _ ⟨x0,r2,t.fs.take (fn - 1),t.st,t.ft,t.lf⟩ fa2 la2 fn2 fc2 ln2 lc2 hf.1;refine a_m ⟨w.heap.size+1,0,none⟩ rfl rfl rfl hL ?_;refine i_p HT.out HE.out ?_;rw [HR2.out];have hf2:=hf.2.1;have hf3:=hf.2.2;have e1:=HFN2.out;have e2:=HLN2.out;subst e1 e2;exact ⟨fa2,fc2,la2,lc2,rfl,hf2,hf3⟩
end Go.Proofs.YtogdpojnbgeknaaGreatDoor
namespace Go.Proofs.YtogdpojnbgeknaaGreatDoor
def c_0 (n:Nat):Code→Option Code
 | .region id ops b=>if id=n then some (.region id ops b) else none
 | .seq a b=>match c_0 n a with
  | some c=>some c
  | none=>c_0 n b
 | .cond _ a b=>match c_0 n a with
  | some c=>some c
  | none=>c_0 n b
 | .block _ c=>c_0 n c
 | .loop c=>c_0 n c
 | .scope c=>c_0 n c
 | _=>none
section
variable {P:Program} {ops:Array Oper} {Q:Exit→Act→World→Prop} {md:Region.Mode}
def Up (listed:Array Bool) (i:Nat):Prop:=listed.getD i true=true
theorem up_set {listed:Array Bool} {i j:Nat}:Up (listed.setIfInBounds i true) j ↔ j=i∨Up listed j:=by
 unfold Up;simp only [Array.getD_eq_getD_getElem?,Array.getElem?_setIfInBounds]
 by_cases h:i=j
 ·subst h
  by_cases hl:i < listed.size
  ·simp [hl]
  ·simp [hl]
 ·rw [if_neg h];simp [Ne.symm h]
theorem d_Z {listed:Array Bool} {i:Nat}:Up (listed.setIfInBounds i true) i:=up_set.2 (.inl rfl)
theorem a_o {listed:Array Bool} {i j:Nat} (h:Up listed j):Up (listed.setIfInBounds i true) j:=up_set.2 (.inr h)
theorem a_b {listed:Array Bool} {i j:Nat} (h:Up (listed.setIfInBounds i true) j) (hne:j≠i):Up listed j:=(up_set.1 h).resolve_left hne
theorem upk {p:Prop} {listed:Array Bool} {i j:Nat} (h:Up listed j→p) (hne:(j==i)=false) (hu:Up (listed.setIfInBounds i true) j):p:=h (a_b hu (by simpa using hne))
theorem cj {a b:Prop} (x:a) (y:b):a∧b:=⟨x,y⟩
def c_D (md:Region.Mode) (o:Oper):List Nat:=(o.after.toList.filter (Region.binds md)).map (·.on)
def Steps (P:Program) (md:Region.Mode) (ops:Array Oper) (Q:Exit→Act→World→Prop) (Inv:Array Bool→Act→World→Prop) (rs:List Nat):Prop:=
 ∀ i∈rs,∀ listed a w,Inv listed a w→i∈Region.ready md ops listed→wpOp P ops Q i (fun a' w'=>Inv (listed.setIfInBounds i true) a' w') a w
theorem Steps.nil {Inv:Array Bool→Act→World→Prop}:Steps P md ops Q Inv []:=fun _ h=>by cases h
theorem Steps.cons {Inv:Array Bool→Act→World→Prop} {i:Nat} {o:Oper} {rs ws:List Nat} (ho:ops[i]?=some o) (hw:c_D md o=ws)
  (h:∀ listed a w,Inv listed a w→¬ Up listed i→(∀ j∈ws,Up listed j)→∀ K':Act→World→Prop,Shut (∀ a' w',Inv (listed.setIfInBounds i true) a' w'→K' a' w')→if Region.wanted o (yielded ops a.tmps)=true then Oper.wp P o a w K' Q else K' (a.put o.dst undef) w)
  (hs:Steps P md ops Q Inv rs):Steps P md ops Q Inv (i::rs):=fun j hj listed a w hi hr=>by
 rcases List.mem_cons.1 hj with rfl | hj
 ·refine wpOp_step ho (fun K' hK=>h listed a w hi ?_ ?_ K' hK)
  ·have:=(mem_ready.1 hr).1;unfold Up;rw [this];decide
  ·obtain ⟨_,o',ho',hall⟩:=mem_ready.1 hr;rw [ho] at ho';obtain rfl:o=o':=by injection ho'
   intro k hk;rw [←hw] at hk;obtain ⟨e,he,rfl⟩:=List.mem_map.1 hk;obtain ⟨he1,he2⟩:=List.mem_filter.1 he;have:=hall e (by simpa using he1) he2;unfold Up;rw [Array.getD_eq_getD_getElem?] at this ⊢
   cases hx:listed[e.on]? with
   | none=>rfl
   | some b=>rw [hx] at this;simpa using this
 ·exact hs j hj listed a w hi hr
def i_z (md:Region.Mode) (ops:Array Oper):Bool:=(List.range ops.size).all fun i=>match ops[i]? with | some o=>(c_D md o).all (fun j=>decide (j < i)) | none=>true
theorem r_Y {listed:Array Bool} (hsz:listed.size=ops.size) (hb:i_z md ops=true) (hr:Region.ready md ops listed=[]):∀ i,Up listed i:=by
 intro i
 induction i using Nat.strongRecOn with
 | _ i ih =>
  by_cases hi:i < ops.size
  ·cases hu:listed.getD i true with
   | true=>exact hu
   | false =>
    exfalso
    obtain ⟨o,ho⟩:∃ o,ops[i]?=some o:=⟨ops[i],by simp [hi]⟩;have hx:=List.all_eq_true.1 hb i (List.mem_range.2 hi);rw [ho] at hx
    have hmem:i∈Region.ready md ops listed:=mem_ready.2 ⟨hu,o,ho,fun e he hbd=>by
     have hlt:e.on < i:=by
      have:=List.all_eq_true.1 hx e.on (List.mem_map.2 ⟨e,List.mem_filter.2 ⟨by simpa using he,hbd⟩,rfl⟩)
      simpa using this
     have h2:=ih e.on hlt;unfold Up at h2;have hlt2:e.on < listed.size:=by omega
     rw [Array.getD_eq_getD_getElem?] at h2 ⊢
     simpa [hlt2] using h2⟩
    rw [hr] at hmem
    cases hmem
  ·have:listed[i]?=none:=by rw [Array.getElem?_eq_none_iff];omega
   unfold Up;rw [Array.getD_eq_getD_getElem?,this];rfl
theorem n_7 {l:List Bool} {i:Nat} (h:l[i]?=some false):(l.set i true).count false+1=l.count false:=by
 induction l generalizing i with
 | nil=>simp at h
 | cons b l ih =>
  cases i with
  | zero=>simp at h;subst h;simp
  | succ i =>
   have:=ih (i:=i) (by simpa using h);simp only [List.set_cons_succ,List.count_cons]
   omega
theorem p_Y {Inv:Array Bool→Act→World→Prop} (hb:i_z md ops=true) (hs:Steps P md ops Q Inv (List.range ops.size))
  (hend:∀ listed a w,Inv listed a w→(∀ i,Up listed i)→Q .normal a w) :
  ∀ (fuel:Nat) (listed:Array Bool) (a:Act) (w:World),listed.size=ops.size→listed.toList.count false≤fuel→Inv listed a w→wpAny P md ops Q fuel listed a w:=by
 intro fuel
 induction fuel with
 | zero =>
  intro listed a w hsz hc hi
  have hr:Region.ready md ops listed=[]:=by
   apply List.eq_nil_iff_forall_not_mem.2
   intro i hi;have h1:=(mem_ready.1 hi).1
   have h2:false∈listed.toList:=by
    by_cases hl:i < listed.size
    ·have:listed[i]=false:=by simpa [hl] using h1
     rw [←this];simp
    ·simp [hl] at h1
   have h3:=List.count_pos_iff.2 h2
   omega
  exact ⟨hr,hend listed a w hi (r_Y hsz hb hr)⟩
 | succ fuel ih =>
  intro listed a w hsz hc hi;refine ⟨fun hr=>hend listed a w hi (r_Y hsz hb hr),fun i hr=>?_⟩;obtain ⟨h1,o,ho,_⟩:=mem_ready.1 hr
  have hlt:i < ops.size:=by
   by_cases h:i < ops.size
   ·exact h
   ·have:ops[i]?=none:=by rw [Array.getElem?_eq_none_iff];omega
    rw [this] at ho;cases ho
  refine wpOp_mono (fun a' w' h'=>ih _ a' w' (by simpa using hsz) ?_ h') (hs i (List.mem_range.2 hlt) listed a w hi hr);have hl:i < listed.size:=by omega
  have h2:listed.toList[i]?=some false:=by
   have:listed[i]=false:=by simpa [hl] using h1
   simp [hl,this]
  have:=n_7 h2;simp only [Array.toList_setIfInBounds]
  omega
def StepsL (P:Program) (md:Region.Mode) (ops:Array Oper) (Q:Exit→Act→World→Prop) (Inv:Array Bool→Act→World→Prop) (k:Nat) (l:List Oper):Prop:=
 ∀ j o,l[j]?=some o→ops[k+j]?=some o→∀ listed a w,Inv listed a w→k+j∈Region.ready md ops listed→wpOp P ops Q (k+j) (fun a' w'=>Inv (listed.setIfInBounds (k+j) true) a' w') a w
theorem StepsL.nil {Inv:Array Bool→Act→World→Prop} {k:Nat}:StepsL P md ops Q Inv k []:=fun _ _ h=>by simp at h
theorem StepsL.cons {Inv:Array Bool→Act→World→Prop} {k:Nat} {o:Oper} {l:List Oper} {ws:List Nat} (hw:c_D md o=ws)
  (h:∀ listed a w,Inv listed a w→¬ Up listed k→(∀ j∈ws,Up listed j)→∀ K':Act→World→Prop,Shut (∀ a' w',Inv (listed.setIfInBounds k true) a' w'→K' a' w')→if Region.wanted o (yielded ops a.tmps)=true then Oper.wp P o a w K' Q else K' (a.put o.dst undef) w)
  (hs:StepsL P md ops Q Inv (k+1) l):StepsL P md ops Q Inv k (o::l):=fun j o' hj ho listed a w hi hr=>by
 cases j with
 | zero =>
  obtain rfl:o=o':=by simpa using hj
  exact Steps.cons (rs:=[]) ho hw h Steps.nil _ (List.mem_singleton.2 rfl) listed a w hi hr
 | succ j =>
  have e:k+(j+1)=k+1+j:=by omega
  rw [e] at ho hr ⊢;exact hs j o' (by simpa using hj) ho listed a w hi hr
theorem StepsL.all {Inv:Array Bool→Act→World→Prop} {l:List Oper} (h:StepsL P md l.toArray Q Inv 0 l):Steps P md l.toArray Q Inv (List.range l.toArray.size):=fun i hi listed a w hI hr=>by
 have hlt:i < l.length:=by simpa using hi
 have:=h i l[i] (by simp [hlt]) (by simp [hlt]) listed a w hI (by simpa using hr)
 simpa using this
theorem b_u {id:Nat} {l:List Oper} {a:Act} {w:World} (Inv:Act→World→Array Bool→Act→World→Prop) (hm:P.follows .mixedOrders=true) (hb:i_z .any l.toArray=true)
  (h0:∀ listed,(∀ i,i < l.length→¬ Up listed i)→Inv a w listed a w.drew) (hs:StepsL P .any l.toArray Q (Inv a w) 0 l)
  (hend:∀ listed a' w',Inv a w listed a' w'→(∀ i,Up listed i)→Q .normal a' w'):(Code.region id l.toArray true).wp P Q a w:=by
 refine wp_region_any hm (p_Y (Inv:=Inv a w) hb hs.all hend l.toArray.size _ a _ (by simp) (by simp) (h0 _ ?_));intro i hi hu;unfold Up at hu;simp [hi] at hu
end
end Go.Proofs.YtogdpojnbgeknaaGreatDoor
namespace Go.Proofs.YtogdpojnbgeknaaGreatDoor
open Go.ChangeShapes Go.WideShapes Go.ChangeAt Go.RowKit
open Gen
open Lib (hid)
theorem e_5 {P:Program} {ops:Array Oper} {o:Oper} {a:Act} {w:World} {K:Act→World→Prop} {Q:Exit→Act→World→Prop} {E:Prop}
  (hg:o.guard=none) (s x:Operand) (t:TypeId) (hop:o.op=Op.call { callee:=Callee.builtin Builtin.append,args:=#[s,x],argTypes:=#[t,t] })
  (base:Nat) (e:TypeId) (i:TypeInfo) (z:Value) (size bytes:Nat) (h1:P.underlying t=some (.slice e)) (h2:P.info? e=some i) (h3:i.zero=some z) (h4:i.size=size) (h5:i.bytes=bytes) (h6:z.cells.size=size) (h7:0 < size)
  (v:Value) (n:Nat) (xs:List Value) (hs:a.eval s=v) (hown:w.ownsRow base e size v n xs)
  (ad:Addr) (m c:Nat) (news:List Value) (hx:a.eval x=.slice (some ad) m c) (hn:news.length=m*size) (hc:∀ j u,news[j]?=some u→w.cell? (ad.add j)=some u) (h1c:∀ u∈news,u.oneCell'=true)
  (b1:n+m≤maxLen) (b2:(n+m)*bytes≤140737488355328) (hbase:base≤w.heap.size)
  (hK:∀ v' w',w'.ownsRow base e size v' (n+m) (xs++news)→w.grownBy w' v.ownBlock→(v'.ownBlock=v.ownBlock∨v'.ownBlock=some w.heap.size)→K (a.put o.dst v') w') :
  if Region.wanted o (yielded ops a.tmps)=true then Oper.wp P o a w K Q else E:=by
 have hw:=N230;rw [if_pos hw];obtain ⟨v',w',hrun,r1,r2,_,r3⟩:=run_append_own_at (P:=P) w base t o.type e i z size bytes h1 h2 h3 h4 h5 h6 h7 v n xs hown ad m c news hn hc h1c b1 b2 hbase;unfold Oper.wp;simp [execOp,hop,resolve,invoke,builtin,hs,hx,hrun,Result.andThen];exact hK v' w' r1 r2 r3
def d_B (t:Thr) (tg:Int):Int:=if a_R t=true∧t.pc≠1000∧0≤tg∧tg≤1000 then (if t.fs.length=6 then 13 else 0) else 1
def f_l (t:Thr) (tg:Int):Thr:=if d_B t tg=0 then ⟨tg,t.r,t.fs++[(t.pc+1,t.r 4,t.r 5,t.r 6,t.r 7)],t.st,t.ft,t.lf⟩ else d_z
theorem f_N {t:Thr} {tg:Int} (h:d_B t tg≠0):f_l t tg=d_z:=by rw [f_l,if_neg h]
theorem b_x {t:Thr} (h:a_R t=true):0≤t.pc∧t.pc≤1000:=by
 exact J102
theorem e_k {t:Thr} {x:Int} {w w':World} {fa la:Option Addr} {fn fc ln lc:Nat} (h1:t.fs.length=fn) (h2:t.lf.length=ln) (F:ThQ (fun b=>w.heap.size≤b) w' fa fn fc la ln lc t) (B:Below w.heap.size w w') :
  ThPostF t x w (.returned (.tuple #[.agg (thC t fa fn fc la ln lc).toArray,.int .i64 x])) w':=by
 subst h1 h2;exact ⟨fa,fc,la,lc,rfl,F,B⟩
structure CallB (w:World) (t:Thr) (g k F:Nat) (fa0 fa la0 la:Option Addr) (n fc0 fc ln lc0 lc:Nat) (x9:Value) (w':World):Prop where
 b:Below w.heap.size w w'
 x:a_p w' g (thC t fa0 n fc0 la0 ln lc0)
 r:a_p w' (g+1) thN
 v:a_p w' k [.int .i64 t.pc,.int .i64 (t.r 0),.int .i64 (t.r 1),.int .i64 (t.r 2),.int .i64 (t.r 3),.int .i64 (t.r 4),.int .i64 (t.r 5),.int .i64 (t.r 6),.int .i64 (t.r 7),x9,.int .i64 t.st,.int .i64 t.ft,.slice la ln lc]
 l:Vs repInt (fun b=>g+2≤b∧b≠k∧(Value.slice fa n fc).ownBlock≠some b) w' la ln t.lf
structure CallC (w:World) (t:Thr) (g k F:Nat) (fa0 fa la0 la:Option Addr) (n fc0 fc ln lc0 lc:Nat):Prop where
 hg:w.heap.size=g
 hk:g+2≤k
 ho:∀ b,(Value.slice fa n fc).ownBlock=some b→g+2≤b∧b < k
section
variable {w:World} {t:Thr} {g k F:Nat} {fa0 fa la0 la:Option Addr} {n fc0 fc ln lc0 lc:Nat} {x9:Value} {w1 w2:World}
theorem k_A (hb:Below w1.heap.size w1 w2) (h:CallB w t g k F fa0 fa la0 la n fc0 fc ln lc0 lc x9 w1):CallB w t g k F fa0 fa la0 la n fc0 fc ln lc0 lc x9 w2:=
 ⟨a_a h.b hb,a_h hb h.x,a_h hb h.r,a_h hb h.v,g_u hb h.l⟩
theorem s_G (o:Obj) (h:CallB w t g k F fa0 fa la0 la n fc0 fc ln lc0 lc x9 w1):CallB w t g k F fa0 fa la0 la n fc0 fc ln lc0 lc x9 (w1.alloc o):=k_A ((Below.refl _ _).alloc (Nat.le_refl _) _) h
theorem k_B (c:CallC w t g k F fa0 fa la0 la n fc0 fc ln lc0 lc) (hg:w1.grownBy w2 (Value.slice fa n fc).ownBlock) (h:CallB w t g k F fa0 fa la0 la n fc0 fc ln lc0 lc x9 w1):CallB w t g k F fa0 fa la0 la n fc0 fc ln lc0 lc x9 w2:=by
 have c1:=c.hg;have c2:=c.hk;have ne:∀ b,b < g+2∨b=k→(Value.slice fa n fc).ownBlock≠some b:=fun b hb e=>by have:=c.ho b e;omega
 exact ⟨h.b.grown hg h.b.size (fun b hb=>by have:=c.ho b hb;omega),b_C hg (ne _ (by omega)) h.x,b_C hg (ne _ (by omega)) h.r,b_C hg (ne _ (by omega)) h.v,a_B (c_1 hg (fun b hb=>hb.2.2)) h.l⟩
theorem n_3 (c:CallC w t g k F fa0 fa la0 la n fc0 fc ln lc0 lc) (y:Value) (h:CallB w t g k F fa0 fa la0 la n fc0 fc ln lc0 lc x9 w1):CallB w t g k F fa0 fa la0 la n fc0 fc ln lc0 lc y (w1.setCell ⟨k,9,none⟩ y):=by
 have c1:=c.hg;have c2:=c.hk;exact ⟨h.b.setCell (p:=⟨k,9,none⟩) (by show _≤k;omega) _,a_l h.x (by omega) _,a_l h.r (by omega) _,a_y h.v 9 (by simp) y,a_B (a_U _ _ _ (fun b hb=>hb.2.1)) h.l⟩
end
inductive CallInv (w:World) (t:Thr) (g k F:Nat) (fa0 fa la0 la:Option Addr) (n fc0 fc ln lc0 lc:Nat) (a0:Act) (w0:World) (listed:Array Bool) (act':Act) (w':World):Prop
 | mk (p28 p29 p30 p31 p32 p33 p34 p35 p36 p37 p38 p39:Value) (v9:Nat) (v10:Value) (x9:Value) (ea:act'=((((((((((((a0.put (some 28) p28).put (some 29) p29).put (some 30) p30).put (some 31) p31).put (some 32) p32).put (some 33) p33).put (some 34) p34).put (some 35) p35).put (some 36) p36).put (some 37) p37).put (some 38) p38).put (some 39) p39)) (hb:CallB w t g k F fa0 fa la0 la n fc0 fc ln lc0 lc x9 w'∧(¬ Up listed 10→w'.ownsRow F 105 5 (.slice fa n fc) n (t.fs.flatMap e_g)∧x9=.slice fa n fc)) (hf0:Up listed 0→p28=.pointer (some ⟨k,9,none⟩)) (hf1:Up listed 1→p29=.slice fa n fc) (hf2:Up listed 2→p30=.pointer (some ⟨g,0,none⟩)) (hf3:Up listed 3→p31=.int .i64 t.pc) (hf4:Up listed 4→p32=.int .i64 (t.pc+1)) (hf5:Up listed 5→p33=.pointer (some ⟨g,1,none⟩)) (hf6:Up listed 6→p34=.agg (rgC t.r).toArray) (hf7:Up listed 7→p35=.agg #[.int .i64 (t.r 4),.int .i64 (t.r 5),.int .i64 (t.r 6),.int .i64 (t.r 7)]) (hf8:Up listed 8→p36=.agg #[.int .i64 (t.pc+1),.int .i64 (t.r 4),.int .i64 (t.r 5),.int .i64 (t.r 6),.int .i64 (t.r 7)]) (hN:Up listed 9→p37=.slice (some ⟨v9,0,none⟩) 1 1∧k < v9∧a_p w' v9 [.int .i64 (t.pc+1),.int .i64 (t.r 4),.int .i64 (t.r 5),.int .i64 (t.r 6),.int .i64 (t.r 7)]) (hA:Up listed 10→p38=v10∧Up listed 1∧Up listed 9∧w'.ownsRow F 105 5 v10 (n+1) ((t.fs.flatMap e_g)++[.int .i64 (t.pc+1),.int .i64 (t.r 4),.int .i64 (t.r 5),.int .i64 (t.r 6),.int .i64 (t.r 7)])∧v10.ownBlock≠some k) (hf11:Up listed 11→p39=.pointer (some ⟨k,9,none⟩)) (hT:Up listed 12→Up listed 10∧x9=v10):CallInv w t g k F fa0 fa la0 la n fc0 fc ln lc0 lc a0 w0 listed act' w'
theorem k_R (t:Thr) (tg:Int) (fa0 la0:Option Addr) (fn fc0 ln lc0:Nat) (w:World) (F:ThF w fa0 fn fc0 la0 ln lc0 t) :
  Calls Tryz.prog 160 #[.agg (thC t fa0 fn fc0 la0 ln lc0).toArray,.int .i64 tg] w (ThPostF (f_l t tg) (d_B t tg) w):=by
 obtain ⟨W,hW⟩:=nm ((w.alloc (Obj.cells (thC t fa0 fn fc0 la0 ln lc0).toArray 46)).alloc (Obj.cells thN.toArray 46));have X:a_p W w.heap.size (thC t fa0 fn fc0 la0 ln lc0):=by rw [hW];exact a_s _ (a_e (thC t fa0 fn fc0 la0 ln lc0) _ rfl)
 have R:=N14;have hB:=N2;have hz:=N85;have FW:=d_b hB F;have ⟨HX,HR,HB,HW,HZ,HF⟩:=hh6 X R hB hW hz F;clear hW X R hB F hz
 go_enter Tryz.func160,Tryz.ntmps160
 go_upto_region 1 with fail
 rw [←HW.out];have k0:=(HX.out 0 _ rfl).1;have k1:=(HX.out 1 _ rfl).1;have k2:=(HX.out 2 _ rfl).1;have k3:=(HX.out 3 _ rfl).1;have k4:=(HX.out 4 _ rfl).1;have k5:=(HX.out 5 _ rfl).1;have k6:=(HX.out 6 _ rfl).1;have k7:=(HX.out 7 _ rfl).1;have k8:=(HX.out 8 _ rfl).1;have k9:=(HX.out 9 _ rfl).1;have k10:=(HX.out 10 _ rfl).1;have k11:=(HX.out 11 _ rfl).1;have k12:=(HX.out 12 _ rfl).1
 cases hr:a_R t with
 | false =>
  have HE:=hid (show d_B t tg=1 by rw [d_B,if_neg (by rw [hr];simp)]);have H1:=hid hr;clear hr
  go_wp2_with fail
  refine (d_i t fa0 la0 fn fc0 ln lc0 _ FW).mono ?_;rintro e w1 ⟨rfl,hb1⟩;rw [H1.out];have HR1:=hid (a_h hb1 HR.out);have HB1:=hid (a_a HB.out hb1);clear hb1 FW k0 k1 k2 k3 k4 k5 k6 k7 k8 k9 k10 k11 k12;exact J23
 | true =>
  have HL:=hid (d_l hr);have HP:=hid (b_x hr);have H1:=hid hr;clear hr
  go_wp2_with fail
  refine (d_i t fa0 la0 fn fc0 ln lc0 _ FW).mono ?_;rintro e w1 ⟨rfl,hb1⟩;rw [H1.out];have hz1:=hb1.size;rw [HZ.out] at hz1;have X1:=a_h hb1 HX.out;have HX1:=hid X1;have HR1:=hid (a_h hb1 HR.out);have HB1:=hid (a_a HB.out hb1);have F1:=d_b hb1 FW;have hfn:t.fs.length=fn:=F1.fs.1;have hln:t.lf.length=ln:=F1.lf.1;have hn6:fn≤6:=by have:=HL.out.1;omega
  have hl8:ln≤8:=by have:=HL.out.2;omega
  have ⟨HFN,HLN⟩:=hh2 hfn hln;clear hb1 FW k0 k1 k2 k3 k4 k5 k6 k7 k8 k9 k10 k11 k12 hfn hln;have k0:=(HX1.out 0 _ rfl).1;have k1:=(HX1.out 1 _ rfl).1;have k2:=(HX1.out 2 _ rfl).1;have k3:=(HX1.out 3 _ rfl).1;have k4:=(HX1.out 4 _ rfl).1;have k5:=(HX1.out 5 _ rfl).1;have k6:=(HX1.out 6 _ rfl).1;have k7:=(HX1.out 7 _ rfl).1;have k8:=(HX1.out 8 _ rfl).1;have k9:=(HX1.out 9 _ rfl).1;have k10:=(HX1.out 10 _ rfl).1;have k11:=(HX1.out 11 _ rfl).1;have k12:=(HX1.out 12 _ rfl).1;clear X1
  have hcase:(t.pc=1000)∨(t.pc≠1000∧decide (0≤tg∧tg≤1000)=false)∨(t.pc≠1000∧decide (0≤tg∧tg≤1000)=true):=by
   by_cases h:t.pc=1000
   ·exact .inl h
   ·cases decide (0≤tg∧tg≤1000) <;> simp [h]
  rcases hcase with h1 | ⟨h1,h2⟩ | ⟨h1,h2⟩
  ·have HE:=hid (show d_B t tg=1 by rw [d_B,if_neg (by rw [h1];simp)]);rw [h1] at k0;clear F1 h1;exact J23
  ·have HE:=hid (show d_B t tg=1 by rw [d_B,if_neg (by simp at h2;intro h;have:=h2 h.2.2.1;omega)]);have q1:(t.pc==1000)=false:=by simpa using h1
   have HD:=hid h2;clear F1 h1 h2;obtain ⟨y0,g0⟩:=HR1.out 0 _ rfl;obtain ⟨y1,g1⟩:=HR1.out 1 _ rfl;obtain ⟨y2,g2⟩:=HR1.out 2 _ rfl;obtain ⟨y3,g3⟩:=HR1.out 3 _ rfl;obtain ⟨y4,g4⟩:=HR1.out 4 _ rfl;obtain ⟨y5,g5⟩:=HR1.out 5 _ rfl;obtain ⟨y6,g6⟩:=HR1.out 6 _ rfl;obtain ⟨y7,g7⟩:=HR1.out 7 _ rfl;obtain ⟨y8,g8⟩:=HR1.out 8 _ rfl;obtain ⟨y9,g9⟩:=HR1.out 9 _ rfl;obtain ⟨y10,g10⟩:=HR1.out 10 _ rfl;obtain ⟨y11,g11⟩:=HR1.out 11 _ rfl;obtain ⟨y12,g12⟩:=HR1.out 12 _ rfl
   go_wp2_with fail
   refine (c_e tg 1000 _).mono ?_;rintro e w2 ⟨rfl,h⟩
   cases h
   rw [HD.out]
   go_wp2
   refine a_m ⟨w.heap.size+1,0,none⟩ rfl rfl rfl (b_s _ _ d_z none none 0 0 0 0 (a_q (xs:=thN) HR1.out rfl)) ?_;exact b_0 (f_N (by rw [HE.out];decide)) HE.out (a_g (g:=w.heap.size+1) (xs:=thN) (k:=0) (by omega) HB1.out)
  ·have hto:0≤tg∧tg≤1000:=by simpa using h2
   have q1:(t.pc==1000)=false:=by simpa using h1
   have HD:=hid h2;have hcond:a_R t=true∧t.pc≠1000∧0≤tg∧tg≤1000:=⟨H1.out,h1,hto⟩;have HC:=hid hcond;clear h1 h2 hcond
   go_wp2_with fail
   refine (c_e tg 1000 _).mono ?_;rintro e w2 ⟨rfl,h⟩
   cases h
   rw [HD.out]
   by_cases h6:fn=6
   ·have HE:=hid (show d_B t tg=13 by rw [d_B,if_pos HC.out,if_pos (by rw [HFN.out];exact h6)]);subst h6;clear F1;exact J23
   ·have HE:=hid (show d_B t tg=0 by rw [d_B,if_pos HC.out,if_neg (by rw [HFN.out];exact h6)]);have q6:((fn:Int)==6)=false:=by simp;omega
    clear h6
    go_wp2_with fail
    refine (h_6 t fa0 la0 fn fc0 ln lc0 _ F1 (by omega) (by omega)).mono ?_;rintro e w2 ⟨fa,fc,la,lc,rfl,d1,d2,d3,d4,d5,hb2⟩;rw [HFN.out] at d1 d2 d3 ⊢;rw [HLN.out] at d4 d5 ⊢;have hz2:=hb2.size;obtain ⟨F0,hF0⟩:=mn (w1.heap.size);obtain ⟨kb,hk0⟩:=mn (w2.heap.size);rw [hF0] at d2 d3 d5 hz1 hz2;rw [hk0] at hz2;obtain ⟨Y0,hY0⟩:=nm (w2.alloc (Obj.cells (thC t fa fn fc la ln lc).toArray 46));have bY0:=N191;have K0:a_p Y0 kb (thC t fa fn fc la ln lc):=by rw [hY0];exact a_e (thC t fa fn fc la ln lc) _ hk0.symm
    rw [HFN.out] at d5;have hcc:CallC w t w.heap.size kb F0 fa0 fa la0 la fn fc0 fc ln lc0 lc:=⟨rfl,by omega,fun b e=>by have:=b_b d2 e;omega⟩
    have hcb:CallB w t w.heap.size kb F0 fa0 fa la0 la fn fc0 fc ln lc0 lc (.slice fa fn fc) Y0:=
     ⟨a_a (a_a HB1.out hb2) bY0,a_h bY0 (a_h hb2 HX1.out),a_h bY0 (a_h hb2 HR1.out),K0,a_B (a_C bY0) (b_e (fun b hb=>⟨by omega,by omega,hb.1.2⟩) (c_S d5))⟩
    have hown:Y0.ownsRow F0 105 5 (.slice fa fn fc) fn (t.fs.flatMap e_g):=b_a d2 bY0;obtain ⟨i0,hi,hz0,hz1',hz2'⟩:=N224;have HI:=hid (And.intro hi (And.intro hz0 (And.intro hz1' hz2')));have ⟨HY0,HC,HCB,HOW,HFK,HLC,HK0⟩:=hh7 hY0 hcc hcb hown hz2 d4 hk0;have HWR:=hid (show IntKind.i64.wrap (t.pc+1)=t.pc+1 from IntWalk.i64_in _ (by have:=HP.out;omega));clear hY0 bY0 K0 hcc hcb hown d1 d2 d3 d4 d5 hb2 F1 k0 k1 k2 k3 k4 k5 k6 k7 k8 k9 k10 k11 k12 hi hz0 hz1' hz2' hF0 hk0
    go_upto_region 6 with fail
    rw [←HY0.out,HK0.out];refine b_u (CallInv w t w.heap.size kb F0 fa0 fa la0 la fn fc0 fc ln lc0 lc) (by kernel_rfl) (by kernel_rfl) ?_ ?_ ?_
    ·intro listed hl;exact .mk undef undef undef undef undef undef undef undef undef undef undef undef 0 (.slice none 0 0) _ (by simp only [Act.put,sA,sB,sC]) (⟨k_A (Below.refl _ _).drew HCB.out,fun _=>⟨HOW.out.drew,rfl⟩⟩) (fun h=>absurd h (hl 0 (by decide))) (fun h=>absurd h (hl 1 (by decide))) (fun h=>absurd h (hl 2 (by decide))) (fun h=>absurd h (hl 3 (by decide))) (fun h=>absurd h (hl 4 (by decide))) (fun h=>absurd h (hl 5 (by decide))) (fun h=>absurd h (hl 6 (by decide))) (fun h=>absurd h (hl 7 (by decide))) (fun h=>absurd h (hl 8 (by decide))) (fun h=>absurd h (hl 9 (by decide))) (fun h=>absurd h (hl 10 (by decide))) (fun h=>absurd h (hl 11 (by decide))) (fun h=>absurd h (hl 12 (by decide)))
    ·show StepsL _ _ _ _ _ _ _
     refine StepsL.cons (k:=0) rfl (fun listed a1 w1 hI hn hw K hK=>?_) ?_
     ·cases hI with | mk p28 p29 p30 p31 p32 p33 p34 p35 p36 p37 p38 p39 v9 v10 x9 ea hb hf0 hf1 hf2 hf3 hf4 hf5 hf6 hf7 hf8 hN hA hf11 hT =>
       have HH_:=N5;clear hf0 hf1 hf2 hf3 hf4 hf5 hf6 hf7 hf8 hN hA hf11 hT hb hw;rw [ea];clear ea;simp only [Act.put,sA,sB,sC]
       go_simp
       obtain ⟨hf0,hf1,hf2,hf3,hf4,hf5,hf6,hf7,hf8,hN,hA,hf11,hT,hb,hw⟩:=HH_.out;refine hK.out _ _ ?_;exact .mk (.pointer (some ⟨kb,9,none⟩)) p29 p30 p31 p32 p33 p34 p35 p36 p37 p38 p39 v9 v10 x9 (by simp only [Act.put,sA,sB,sC]) (⟨hb.1,fun h=>hb.2 (fun hu=>h (a_o hu))⟩) (fun _=>rfl) (upk hf1 rfl) (upk hf2 rfl) (upk hf3 rfl) (upk hf4 rfl) (upk hf5 rfl) (upk hf6 rfl) (upk hf7 rfl) (upk hf8 rfl) (upk hN rfl) (fun h=>⟨(hA (a_b h (by decide))).1,a_o (hA (a_b h (by decide))).2.1,a_o (hA (a_b h (by decide))).2.2.1,(hA (a_b h (by decide))).2.2.2⟩) (upk hf11 rfl) (fun h=>⟨a_o (hT (a_b h (by decide))).1,(hT (a_b h (by decide))).2⟩)
     refine StepsL.cons (k:=1) rfl (fun listed a1 w1 hI hn hw K hK=>?_) ?_
     ·cases hI with | mk p28 p29 p30 p31 p32 p33 p34 p35 p36 p37 p38 p39 v9 v10 x9 ea hb hf0 hf1 hf2 hf3 hf4 hf5 hf6 hf7 hf8 hN hA hf11 hT =>
       have e_f0:=hf0 (hw 0 (by decide));subst e_f0;have h10:¬ Up listed 10:=fun h=>hn (hA h).2.1
       have hx9:=(hb.2 h10).2;subst hx9;have k9:=(hb.1.v 9 _ rfl).1;have HH_:=N5;clear hf0 hf1 hf2 hf3 hf4 hf5 hf6 hf7 hf8 hN hA hf11 hT hb hw;rw [ea];clear ea;simp only [Act.put,sA,sB,sC]
       go_simp
       obtain ⟨hf0,hf1,hf2,hf3,hf4,hf5,hf6,hf7,hf8,hN,hA,hf11,hT,hb,hw⟩:=HH_.out;refine hK.out _ _ ?_;exact .mk (.pointer (some ⟨kb,9,none⟩)) (.slice fa fn fc) p30 p31 p32 p33 p34 p35 p36 p37 p38 p39 v9 v10 _ (by simp only [Act.put,sA,sB,sC]) (⟨hb.1,fun h=>hb.2 (fun hu=>h (a_o hu))⟩) (fun _=>rfl) (fun _=>rfl) (upk hf2 rfl) (upk hf3 rfl) (upk hf4 rfl) (upk hf5 rfl) (upk hf6 rfl) (upk hf7 rfl) (upk hf8 rfl) (upk hN rfl) (fun h=>⟨(hA (a_b h (by decide))).1,a_o (hA (a_b h (by decide))).2.1,a_o (hA (a_b h (by decide))).2.2.1,(hA (a_b h (by decide))).2.2.2⟩) (upk hf11 rfl) (fun h=>⟨a_o (hT (a_b h (by decide))).1,(hT (a_b h (by decide))).2⟩)
     refine StepsL.cons (k:=2) rfl (fun listed a1 w1 hI hn hw K hK=>?_) ?_
     ·cases hI with | mk p28 p29 p30 p31 p32 p33 p34 p35 p36 p37 p38 p39 v9 v10 x9 ea hb hf0 hf1 hf2 hf3 hf4 hf5 hf6 hf7 hf8 hN hA hf11 hT =>
       have HH_:=N5;clear hf0 hf1 hf2 hf3 hf4 hf5 hf6 hf7 hf8 hN hA hf11 hT hb hw;rw [ea];clear ea;simp only [Act.put,sA,sB,sC]
       go_simp
       obtain ⟨hf0,hf1,hf2,hf3,hf4,hf5,hf6,hf7,hf8,hN,hA,hf11,hT,hb,hw⟩:=HH_.out;refine hK.out _ _ ?_;exact .mk p28 p29 (.pointer (some ⟨w.heap.size,0,none⟩)) p31 p32 p33 p34 p35 p36 p37 p38 p39 v9 v10 x9 (by simp only [Act.put,sA,sB,sC]) (⟨hb.1,fun h=>hb.2 (fun hu=>h (a_o hu))⟩) (upk hf0 rfl) (upk hf1 rfl) (fun _=>rfl) (upk hf3 rfl) (upk hf4 rfl) (upk hf5 rfl) (upk hf6 rfl) (upk hf7 rfl) (upk hf8 rfl) (upk hN rfl) (fun h=>⟨(hA (a_b h (by decide))).1,a_o (hA (a_b h (by decide))).2.1,a_o (hA (a_b h (by decide))).2.2.1,(hA (a_b h (by decide))).2.2.2⟩) (upk hf11 rfl) (fun h=>⟨a_o (hT (a_b h (by decide))).1,(hT (a_b h (by decide))).2⟩)
     refine StepsL.cons (k:=3) rfl (fun listed a1 w1 hI hn hw K hK=>?_) ?_
     ·cases hI with | mk p28 p29 p30 p31 p32 p33 p34 p35 p36 p37 p38 p39 v9 v10 x9 ea hb hf0 hf1 hf2 hf3 hf4 hf5 hf6 hf7 hf8 hN hA hf11 hT =>
       have e_f2:=hf2 (hw 2 (by decide));subst e_f2;have k0:=(hb.1.x 0 _ rfl).1;have HH_:=N5;clear hf0 hf1 hf2 hf3 hf4 hf5 hf6 hf7 hf8 hN hA hf11 hT hb hw;rw [ea];clear ea;simp only [Act.put,sA,sB,sC]
       go_simp
       obtain ⟨hf0,hf1,hf2,hf3,hf4,hf5,hf6,hf7,hf8,hN,hA,hf11,hT,hb,hw⟩:=HH_.out;refine hK.out _ _ ?_;exact .mk p28 p29 (.pointer (some ⟨w.heap.size,0,none⟩)) (.int .i64 t.pc) p32 p33 p34 p35 p36 p37 p38 p39 v9 v10 x9 (by simp only [Act.put,sA,sB,sC]) (⟨hb.1,fun h=>hb.2 (fun hu=>h (a_o hu))⟩) (upk hf0 rfl) (upk hf1 rfl) (fun _=>rfl) (fun _=>rfl) (upk hf4 rfl) (upk hf5 rfl) (upk hf6 rfl) (upk hf7 rfl) (upk hf8 rfl) (upk hN rfl) (fun h=>⟨(hA (a_b h (by decide))).1,a_o (hA (a_b h (by decide))).2.1,a_o (hA (a_b h (by decide))).2.2.1,(hA (a_b h (by decide))).2.2.2⟩) (upk hf11 rfl) (fun h=>⟨a_o (hT (a_b h (by decide))).1,(hT (a_b h (by decide))).2⟩)
     refine StepsL.cons (k:=4) rfl (fun listed a1 w1 hI hn hw K hK=>?_) ?_
     ·cases hI with | mk p28 p29 p30 p31 p32 p33 p34 p35 p36 p37 p38 p39 v9 v10 x9 ea hb hf0 hf1 hf2 hf3 hf4 hf5 hf6 hf7 hf8 hN hA hf11 hT =>
       have e_f3:=hf3 (hw 3 (by decide));subst e_f3;have HH_:=N5;clear hf0 hf1 hf2 hf3 hf4 hf5 hf6 hf7 hf8 hN hA hf11 hT hb hw;rw [ea];clear ea;simp only [Act.put,sA,sB,sC]
       go_simp
       rw [HWR.out];obtain ⟨hf0,hf1,hf2,hf3,hf4,hf5,hf6,hf7,hf8,hN,hA,hf11,hT,hb,hw⟩:=HH_.out;refine hK.out _ _ ?_;exact .mk p28 p29 p30 (.int .i64 t.pc) (.int .i64 (t.pc+1)) p33 p34 p35 p36 p37 p38 p39 v9 v10 x9 (by simp only [Act.put,sA,sB,sC]) (⟨hb.1,fun h=>hb.2 (fun hu=>h (a_o hu))⟩) (upk hf0 rfl) (upk hf1 rfl) (upk hf2 rfl) (fun _=>rfl) (fun _=>rfl) (upk hf5 rfl) (upk hf6 rfl) (upk hf7 rfl) (upk hf8 rfl) (upk hN rfl) (fun h=>⟨(hA (a_b h (by decide))).1,a_o (hA (a_b h (by decide))).2.1,a_o (hA (a_b h (by decide))).2.2.1,(hA (a_b h (by decide))).2.2.2⟩) (upk hf11 rfl) (fun h=>⟨a_o (hT (a_b h (by decide))).1,(hT (a_b h (by decide))).2⟩)
     refine StepsL.cons (k:=5) rfl (fun listed a1 w1 hI hn hw K hK=>?_) ?_
     ·cases hI with | mk p28 p29 p30 p31 p32 p33 p34 p35 p36 p37 p38 p39 v9 v10 x9 ea hb hf0 hf1 hf2 hf3 hf4 hf5 hf6 hf7 hf8 hN hA hf11 hT =>
       have HH_:=N5;clear hf0 hf1 hf2 hf3 hf4 hf5 hf6 hf7 hf8 hN hA hf11 hT hb hw;rw [ea];clear ea;simp only [Act.put,sA,sB,sC]
       go_simp
       obtain ⟨hf0,hf1,hf2,hf3,hf4,hf5,hf6,hf7,hf8,hN,hA,hf11,hT,hb,hw⟩:=HH_.out;refine hK.out _ _ ?_;exact .mk p28 p29 p30 p31 p32 (.pointer (some ⟨w.heap.size,1,none⟩)) p34 p35 p36 p37 p38 p39 v9 v10 x9 (by simp only [Act.put,sA,sB,sC]) (⟨hb.1,fun h=>hb.2 (fun hu=>h (a_o hu))⟩) (upk hf0 rfl) (upk hf1 rfl) (upk hf2 rfl) (upk hf3 rfl) (upk hf4 rfl) (fun _=>rfl) (upk hf6 rfl) (upk hf7 rfl) (upk hf8 rfl) (upk hN rfl) (fun h=>⟨(hA (a_b h (by decide))).1,a_o (hA (a_b h (by decide))).2.1,a_o (hA (a_b h (by decide))).2.2.1,(hA (a_b h (by decide))).2.2.2⟩) (upk hf11 rfl) (fun h=>⟨a_o (hT (a_b h (by decide))).1,(hT (a_b h (by decide))).2⟩)
     refine StepsL.cons (k:=6) rfl (fun listed a1 w1 hI hn hw K hK=>?_) ?_
     ·cases hI with | mk p28 p29 p30 p31 p32 p33 p34 p35 p36 p37 p38 p39 v9 v10 x9 ea hb hf0 hf1 hf2 hf3 hf4 hf5 hf6 hf7 hf8 hN hA hf11 hT =>
       have e_f5:=hf5 (hw 5 (by decide));subst e_f5;have k1:=(hb.1.x 1 _ rfl).1;have k2:=(hb.1.x 2 _ rfl).1;have k3:=(hb.1.x 3 _ rfl).1;have k4:=(hb.1.x 4 _ rfl).1;have k5:=(hb.1.x 5 _ rfl).1;have k6:=(hb.1.x 6 _ rfl).1;have k7:=(hb.1.x 7 _ rfl).1;have k8:=(hb.1.x 8 _ rfl).1;have HH_:=N5;clear hf0 hf1 hf2 hf3 hf4 hf5 hf6 hf7 hf8 hN hA hf11 hT hb hw;rw [ea];clear ea;simp only [Act.put,sA,sB,sC]
       go_simp
       obtain ⟨hf0,hf1,hf2,hf3,hf4,hf5,hf6,hf7,hf8,hN,hA,hf11,hT,hb,hw⟩:=HH_.out;refine hK.out _ _ ?_;exact .mk p28 p29 p30 p31 p32 (.pointer (some ⟨w.heap.size,1,none⟩)) (.agg (rgC t.r).toArray) p35 p36 p37 p38 p39 v9 v10 x9 (by simp only [Act.put,sA,sB,sC]) (⟨hb.1,fun h=>hb.2 (fun hu=>h (a_o hu))⟩) (upk hf0 rfl) (upk hf1 rfl) (upk hf2 rfl) (upk hf3 rfl) (upk hf4 rfl) (fun _=>rfl) (fun _=>rfl) (upk hf7 rfl) (upk hf8 rfl) (upk hN rfl) (fun h=>⟨(hA (a_b h (by decide))).1,a_o (hA (a_b h (by decide))).2.1,a_o (hA (a_b h (by decide))).2.2.1,(hA (a_b h (by decide))).2.2.2⟩) (upk hf11 rfl) (fun h=>⟨a_o (hT (a_b h (by decide))).1,(hT (a_b h (by decide))).2⟩)
     refine StepsL.cons (k:=7) rfl (fun listed a1 w1 hI hn hw K hK=>?_) ?_
     ·cases hI with | mk p28 p29 p30 p31 p32 p33 p34 p35 p36 p37 p38 p39 v9 v10 x9 ea hb hf0 hf1 hf2 hf3 hf4 hf5 hf6 hf7 hf8 hN hA hf11 hT =>
       have e_f6:=hf6 (hw 6 (by decide));subst e_f6;have HH_:=N5;clear hf0 hf1 hf2 hf3 hf4 hf5 hf6 hf7 hf8 hN hA hf11 hT hb hw;rw [ea];clear ea;simp only [Act.put,sA,sB,sC]
       go_simp
       refine (q_T t.r _).mono ?_;rintro e w2 ⟨rfl,hb2⟩;obtain ⟨hf0,hf1,hf2,hf3,hf4,hf5,hf6,hf7,hf8,hN,hA,hf11,hT,hb,hw⟩:=HH_.out;refine hK.out _ _ ?_;exact .mk p28 p29 p30 p31 p32 p33 (.agg (rgC t.r).toArray) (.agg #[.int .i64 (t.r 4),.int .i64 (t.r 5),.int .i64 (t.r 6),.int .i64 (t.r 7)]) p36 p37 p38 p39 v9 v10 x9 (by simp only [Act.put,sA,sB,sC]) (⟨k_A hb2 hb.1,fun h=>⟨b_a (hb.2 (fun hu=>h (a_o hu))).1 hb2,(hb.2 (fun hu=>h (a_o hu))).2⟩⟩) (upk hf0 rfl) (upk hf1 rfl) (upk hf2 rfl) (upk hf3 rfl) (upk hf4 rfl) (upk hf5 rfl) (fun _=>rfl) (fun _=>rfl) (upk hf8 rfl) (fun h=>⟨(hN (a_b h (by decide))).1,(hN (a_b h (by decide))).2.1,a_h hb2 (hN (a_b h (by decide))).2.2⟩) (fun h=>⟨(hA (a_b h (by decide))).1,a_o (hA (a_b h (by decide))).2.1,a_o (hA (a_b h (by decide))).2.2.1,b_a (hA (a_b h (by decide))).2.2.2.1 hb2,(hA (a_b h (by decide))).2.2.2.2⟩) (upk hf11 rfl) (fun h=>⟨a_o (hT (a_b h (by decide))).1,(hT (a_b h (by decide))).2⟩)
     refine StepsL.cons (k:=8) rfl (fun listed a1 w1 hI hn hw K hK=>?_) ?_
     ·cases hI with | mk p28 p29 p30 p31 p32 p33 p34 p35 p36 p37 p38 p39 v9 v10 x9 ea hb hf0 hf1 hf2 hf3 hf4 hf5 hf6 hf7 hf8 hN hA hf11 hT =>
       have e_f4:=hf4 (hw 4 (by decide));have e_f7:=hf7 (hw 7 (by decide));subst e_f4 e_f7;have HH_:=N5;clear hf0 hf1 hf2 hf3 hf4 hf5 hf6 hf7 hf8 hN hA hf11 hT hb hw;rw [ea];clear ea;simp only [Act.put,sA,sB,sC]
       go_simp
       obtain ⟨hf0,hf1,hf2,hf3,hf4,hf5,hf6,hf7,hf8,hN,hA,hf11,hT,hb,hw⟩:=HH_.out;refine hK.out _ _ ?_;exact .mk p28 p29 p30 p31 (.int .i64 (t.pc+1)) p33 p34 (.agg #[.int .i64 (t.r 4),.int .i64 (t.r 5),.int .i64 (t.r 6),.int .i64 (t.r 7)]) (.agg #[.int .i64 (t.pc+1),.int .i64 (t.r 4),.int .i64 (t.r 5),.int .i64 (t.r 6),.int .i64 (t.r 7)]) p37 p38 p39 v9 v10 x9 (by simp only [Act.put,sA,sB,sC]) (⟨hb.1,fun h=>hb.2 (fun hu=>h (a_o hu))⟩) (upk hf0 rfl) (upk hf1 rfl) (upk hf2 rfl) (upk hf3 rfl) (fun _=>rfl) (upk hf5 rfl) (upk hf6 rfl) (fun _=>rfl) (fun _=>rfl) (upk hN rfl) (fun h=>⟨(hA (a_b h (by decide))).1,a_o (hA (a_b h (by decide))).2.1,a_o (hA (a_b h (by decide))).2.2.1,(hA (a_b h (by decide))).2.2.2⟩) (upk hf11 rfl) (fun h=>⟨a_o (hT (a_b h (by decide))).1,(hT (a_b h (by decide))).2⟩)
     refine StepsL.cons (k:=9) rfl (fun listed a1 w1 hI hn hw K hK=>?_) ?_
     ·cases hI with | mk p28 p29 p30 p31 p32 p33 p34 p35 p36 p37 p38 p39 v9 v10 x9 ea hb hf0 hf1 hf2 hf3 hf4 hf5 hf6 hf7 hf8 hN hA hf11 hT =>
       have e_f8:=hf8 (hw 8 (by decide));subst e_f8;have HH_:=N5;clear hf0 hf1 hf2 hf3 hf4 hf5 hf6 hf7 hf8 hN hA hf11 hT hb hw;rw [ea];clear ea;simp only [Act.put,sA,sB,sC]
       go_simp
       obtain ⟨hf0,hf1,hf2,hf3,hf4,hf5,hf6,hf7,hf8,hN,hA,hf11,hT,hb,hw⟩:=HH_.out;refine hK.out _ _ ?_;exact .mk p28 p29 p30 p31 p32 p33 p34 p35 (.agg #[.int .i64 (t.pc+1),.int .i64 (t.r 4),.int .i64 (t.r 5),.int .i64 (t.r 6),.int .i64 (t.r 7)]) (.slice (some ⟨w1.heap.size,0,none⟩) 1 1) p38 p39 w1.heap.size v10 x9 (by simp only [Act.put,sA,sB,sC]) (⟨s_G _ hb.1,fun h=>⟨(hb.2 (fun hu=>h (a_o hu))).1.alloc _,(hb.2 (fun hu=>h (a_o hu))).2⟩⟩) (upk hf0 rfl) (upk hf1 rfl) (upk hf2 rfl) (upk hf3 rfl) (upk hf4 rfl) (upk hf5 rfl) (upk hf6 rfl) (upk hf7 rfl) (fun _=>rfl) (fun _=>⟨rfl,a_N hb.1.v (by simp),a_e [.int .i64 (t.pc+1),.int .i64 (t.r 4),.int .i64 (t.r 5),.int .i64 (t.r 6),.int .i64 (t.r 7)] _ rfl⟩) (fun h=>absurd (hA (a_b h (by decide))).2.2.1 hn) (upk hf11 rfl) (fun h=>⟨a_o (hT (a_b h (by decide))).1,(hT (a_b h (by decide))).2⟩)
     refine StepsL.cons (k:=10) rfl (fun listed a1 w1 hI hn hw K hK=>?_) ?_
     ·cases hI with | mk p28 p29 p30 p31 p32 p33 p34 p35 p36 p37 p38 p39 v9 v10 x9 ea hb hf0 hf1 hf2 hf3 hf4 hf5 hf6 hf7 hf8 hN hA hf11 hT =>
       have e_f1:=hf1 (hw 1 (by decide));obtain ⟨e_N,n1,n2⟩:=hN (hw 9 (by decide));subst e_f1;subst e_N;obtain ⟨ho,hx9⟩:=hb.2 hn;rw [ea];refine e_5 rfl (.tmp 29) (.tmp 37) 44 rfl F0 105 i0 (.agg #[.int .i64 0,.int .i64 0,.int .i64 0,.int .i64 0,.int .i64 0]) 5 40 Tryz.underlying44 HI.out.1 HI.out.2.1 HI.out.2.2.1 HI.out.2.2.2 rfl (by decide) (.slice fa fn fc) fn (t.fs.flatMap e_g) (by simp [Act.eval,Act.put]) ho ⟨v9,0,none⟩ 1 1 [.int .i64 (t.pc+1),.int .i64 (t.r 4),.int .i64 (t.r 5),.int .i64 (t.r 6),.int .i64 (t.r 7)] (by simp [Act.eval,Act.put]) rfl (fun j u hu=>by rw [Gen.add_plain,Nat.zero_add];exact (n2 j u hu).1) (by intro u hu;simp at hu;rcases hu with rfl | rfl | rfl | rfl | rfl <;> rfl) (by unfold maxLen;omega) (by omega) (Nat.le_trans HFK.out (Nat.le_of_lt (a_N hb.1.v (by simp)))) ?_;intro v' w2 r1 r2 r3
       have hvk:v'.ownBlock≠some kb:=fun e=>by
        rcases r3 with r3 | r3
        ·have:=HC.out.ho kb (r3.symm.trans e);omega
        ·have h9:=a_N hb.1.v (by simp);rw [e] at r3
         injection r3 with r3
         omega
       have hvn:(Value.slice fa fn fc).ownBlock≠some v9:=fun e=>by have:=HC.out.ho v9 e;omega
       refine hK.out _ _ ?_;exact .mk p28 (.slice fa fn fc) p30 p31 p32 p33 p34 p35 p36 (.slice (some ⟨v9,0,none⟩) 1 1) v' p39 v9 v' x9 (by simp only [Act.put,sA,sB,sC]) (⟨k_B HC.out r2 hb.1,fun h=>absurd d_Z h⟩) (upk hf0 rfl) (fun _=>rfl) (upk hf2 rfl) (upk hf3 rfl) (upk hf4 rfl) (upk hf5 rfl) (upk hf6 rfl) (upk hf7 rfl) (upk hf8 rfl) (fun _=>⟨rfl,n1,b_C r2 hvn n2⟩) (fun _=>⟨rfl,a_o (hw 1 (by decide)),a_o (hw 9 (by decide)),r1,hvk⟩) (upk hf11 rfl) (fun h=>absurd (hT (a_b h (by decide))).1 hn)
     refine StepsL.cons (k:=11) rfl (fun listed a1 w1 hI hn hw K hK=>?_) ?_
     ·cases hI with | mk p28 p29 p30 p31 p32 p33 p34 p35 p36 p37 p38 p39 v9 v10 x9 ea hb hf0 hf1 hf2 hf3 hf4 hf5 hf6 hf7 hf8 hN hA hf11 hT =>
       have HH_:=N5;clear hf0 hf1 hf2 hf3 hf4 hf5 hf6 hf7 hf8 hN hA hf11 hT hb hw;rw [ea];clear ea;simp only [Act.put,sA,sB,sC]
       go_simp
       obtain ⟨hf0,hf1,hf2,hf3,hf4,hf5,hf6,hf7,hf8,hN,hA,hf11,hT,hb,hw⟩:=HH_.out;refine hK.out _ _ ?_;exact .mk p28 p29 p30 p31 p32 p33 p34 p35 p36 p37 p38 (.pointer (some ⟨kb,9,none⟩)) v9 v10 x9 (by simp only [Act.put,sA,sB,sC]) (⟨hb.1,fun h=>hb.2 (fun hu=>h (a_o hu))⟩) (upk hf0 rfl) (upk hf1 rfl) (upk hf2 rfl) (upk hf3 rfl) (upk hf4 rfl) (upk hf5 rfl) (upk hf6 rfl) (upk hf7 rfl) (upk hf8 rfl) (upk hN rfl) (fun h=>⟨(hA (a_b h (by decide))).1,a_o (hA (a_b h (by decide))).2.1,a_o (hA (a_b h (by decide))).2.2.1,(hA (a_b h (by decide))).2.2.2⟩) (fun _=>rfl) (fun h=>⟨a_o (hT (a_b h (by decide))).1,(hT (a_b h (by decide))).2⟩)
     refine StepsL.cons (k:=12) rfl (fun listed a1 w1 hI hn hw K hK=>?_) ?_
     ·cases hI with | mk p28 p29 p30 p31 p32 p33 p34 p35 p36 p37 p38 p39 v9 v10 x9 ea hb hf0 hf1 hf2 hf3 hf4 hf5 hf6 hf7 hf8 hN hA hf11 hT =>
       have e_f11:=hf11 (hw 11 (by decide));subst e_f11;obtain ⟨e_A,a1',a2',a3',a4'⟩:=hA (hw 10 (by decide));subst e_A;obtain ⟨fa3,fc3,e10⟩:=c_g a3';subst e10;obtain ⟨y9,g9⟩:=hb.1.v 9 _ rfl;have HH_:=N5;clear hf0 hf1 hf2 hf3 hf4 hf5 hf6 hf7 hf8 hN hA hf11 hT hb hw;rw [ea];clear ea;simp only [Act.put,sA,sB,sC]
       go_simp
       obtain ⟨hf0,hf1,hf2,hf3,hf4,hf5,hf6,hf7,hf8,hN,hA,hf11,hT,hb,hw⟩:=HH_.out;refine hK.out _ _ ?_;exact .mk p28 p29 p30 p31 p32 p33 p34 p35 p36 p37 (.slice fa3 (fn+1) fc3) (.pointer (some ⟨kb,9,none⟩)) v9 (.slice fa3 (fn+1) fc3) (.slice fa3 (fn+1) fc3) (by simp only [Act.put,sA,sB,sC]) (⟨n_3 HC.out _ hb.1,fun h=>absurd (a_o (hw 10 (by decide))) h⟩) (upk hf0 rfl) (upk hf1 rfl) (upk hf2 rfl) (upk hf3 rfl) (upk hf4 rfl) (upk hf5 rfl) (upk hf6 rfl) (upk hf7 rfl) (upk hf8 rfl) (fun h=>⟨(hN (a_b h (by decide))).1,(hN (a_b h (by decide))).2.1,a_l (hN (a_b h (by decide))).2.2 (by have:=(hN (a_b h (by decide))).2.1;omega) _⟩) (fun _=>⟨rfl,a_o a1',a_o a2',d_U a3' ⟨kb,9,none⟩ a4' _,a4'⟩) (fun _=>rfl) (fun _=>⟨a_o (hw 10 (by decide)),rfl⟩)
     exact StepsL.nil
    ·intro listed a1 w1 hI hu
     cases hI with | mk p28 p29 p30 p31 p32 p33 p34 p35 p36 p37 p38 p39 v9 v10 x9 ea hb hf0 hf1 hf2 hf3 hf4 hf5 hf6 hf7 hf8 hN hA hf11 hT =>
      have e12:=(hT (hu 12)).2;obtain ⟨-,-,-,o1,o2⟩:=hA (hu 10);clear hf0 hf1 hf2 hf3 hf4 hf5 hf6 hf7 hf8 hN hA hf11 hT;subst e12;obtain ⟨fa3,fc3,e3⟩:=c_g o1;subst e3;have hcb:=hb.1;clear hb;have hcg:=HC.out.hk;obtain ⟨fr,hfr⟩:∃ fr:Fr,fr=(t.pc+1,t.r 4,t.r 5,t.r 6,t.r 7):=⟨_,rfl⟩;have hcs:=N90;rw [hcs] at o1;have hlen:(t.fs++[fr]).length=fn+1:=by rw [List.length_append,HFN.out];rfl
      have HT:Hid (f_l t tg=⟨tg,t.r,t.fs++[fr],t.st,t.ft,t.lf⟩):=by rw [hfr];exact (show f_l t tg=⟨tg,t.r,t.fs++[(t.pc+1,t.r 4,t.r 5,t.r 6,t.r 7)],t.st,t.ft,t.lf⟩ by rw [f_l,if_pos HE.out])
      obtain ⟨Y1,hY1⟩:=nm (w1.setCell ⟨kb,0,none⟩ (.int .i64 tg));have K1:a_p Y1 kb [.int .i64 tg,.int .i64 (t.r 0),.int .i64 (t.r 1),.int .i64 (t.r 2),.int .i64 (t.r 3),.int .i64 (t.r 4),.int .i64 (t.r 5),.int .i64 (t.r 6),.int .i64 (t.r 7),.slice fa3 (fn+1) fc3,.int .i64 t.st,.int .i64 t.ft,.slice la ln lc]:=by rw [hY1];exact a_y hcb.v 0 (by simp) _
      have R1:a_p Y1 (w.heap.size+1) thN:=by rw [hY1];exact a_l hcb.r (by omega) _
      have B1:Below w.heap.size w Y1:=by rw [hY1];exact hcb.b.setCell (p:=⟨kb,0,none⟩) (by show _≤kb;omega) _
      have O1:Y1.ownsRow F0 105 5 (.slice fa3 (fn+1) fc3) (fn+1) ((t.fs++[fr]).flatMap e_g):=by rw [hY1];exact d_U o1 ⟨kb,0,none⟩ o2 _
      have L1:Vs repInt (fun b=>w.heap.size+2≤b) Y1 la ln t.lf:=by rw [hY1];exact b_e (fun b hb=>hb.1) (a_B (a_U _ _ _ (fun b hb=>hb.2.1)) hcb.l)
      obtain ⟨Y2,hY2⟩:=nm (d_u Y1 (w.heap.size+1) 0 [.int .i64 tg,.int .i64 (t.r 0),.int .i64 (t.r 1),.int .i64 (t.r 2),.int .i64 (t.r 3),.int .i64 (t.r 4),.int .i64 (t.r 5),.int .i64 (t.r 6),.int .i64 (t.r 7),.slice fa3 (fn+1) fc3,.int .i64 t.st,.int .i64 t.ft,.slice la ln lc]);have R2:a_p Y2 (w.heap.size+1) [.int .i64 tg,.int .i64 (t.r 0),.int .i64 (t.r 1),.int .i64 (t.r 2),.int .i64 (t.r 3),.int .i64 (t.r 4),.int .i64 (t.r 5),.int .i64 (t.r 6),.int .i64 (t.r 7),.slice fa3 (fn+1) fc3,.int .i64 t.st,.int .i64 t.ft,.slice la ln lc]:=by rw [hY2];exact a_q R1 rfl
      have O2:Y2.ownsRow F0 105 5 (.slice fa3 (fn+1) fc3) (fn+1) ((t.fs++[fr]).flatMap e_g):=by
       rw [hY2];exact a_0 (b_2 (p:=⟨w.heap.size+1,0,none⟩) O1 (.inr (by show w.heap.size+1 < _;omega))) O1
      have L2:Vs repInt (fun b=>w.heap.size≤b) Y2 la ln t.lf:=by rw [hY2];exact b_e (fun b hb=>by omega) (a_B (a_u (fun b hb=>by omega)) L1)
      have B2:Below w.heap.size w Y2:=by rw [hY2];exact a_g (by omega) B1
      have S2:=e_G (r:=repFr) O2 (f_P (t.fs++[fr])) (Q:=fun b=>w.heap.size≤b) (fun b hb _=>by omega);obtain ⟨fa4,fc4,e4,s1,s2,s3,s4⟩:=S2
      injection e4 with e4 _ e5
      subst e4 e5;have HFIN:=hid (show a_p Y2 (w.heap.size+1) [.int .i64 tg,.int .i64 (t.r 0),.int .i64 (t.r 1),.int .i64 (t.r 2),.int .i64 (t.r 3),.int .i64 (t.r 4),.int .i64 (t.r 5),.int .i64 (t.r 6),.int .i64 (t.r 7),.slice fa3 (fn+1) fc3,.int .i64 t.st,.int .i64 t.ft,.slice la ln lc]∧ThQ (fun b=>w.heap.size≤b) Y2 fa3 (fn+1) fc3 la ln lc ⟨tg,t.r,t.fs++[fr],t.st,t.ft,t.lf⟩∧Below w.heap.size w Y2 from ⟨R2,⟨⟨s1,s2,s3⟩,s4,HLC.out,L2⟩,B2⟩);have ⟨HLEN,HY1,HY2,HR1,HK1⟩:=hh5 hlen hY1 hY2 R1 K1;obtain ⟨z0,f0⟩:=hcb.v 0 _ rfl;clear o1 o2 hcb hcg hfr hcs hlen hY1 K1 R1 B1 O1 L1 hY2 R2 O2 L2 B2 s1 s2 s3 s4;rw [ea];clear ea;simp only [Act.put,sA,sB,sC]
      go_upto_region 8 with fail
      rw [←HY1.out];clear z0 f0;have k0:=(HK1.out 0 _ rfl).1;have k1:=(HK1.out 1 _ rfl).1;have k2:=(HK1.out 2 _ rfl).1;have k3:=(HK1.out 3 _ rfl).1;have k4:=(HK1.out 4 _ rfl).1;have k5:=(HK1.out 5 _ rfl).1;have k6:=(HK1.out 6 _ rfl).1;have k7:=(HK1.out 7 _ rfl).1;have k8:=(HK1.out 8 _ rfl).1;have k9:=(HK1.out 9 _ rfl).1;have k10:=(HK1.out 10 _ rfl).1;have k11:=(HK1.out 11 _ rfl).1;have k12:=(HK1.out 12 _ rfl).1;obtain ⟨y0,g0⟩:=HR1.out 0 _ rfl;obtain ⟨y1,g1⟩:=HR1.out 1 _ rfl;obtain ⟨y2,g2⟩:=HR1.out 2 _ rfl;obtain ⟨y3,g3⟩:=HR1.out 3 _ rfl;obtain ⟨y4,g4⟩:=HR1.out 4 _ rfl;obtain ⟨y5,g5⟩:=HR1.out 5 _ rfl;obtain ⟨y6,g6⟩:=HR1.out 6 _ rfl;obtain ⟨y7,g7⟩:=HR1.out 7 _ rfl;obtain ⟨y8,g8⟩:=HR1.out 8 _ rfl;obtain ⟨y9,g9⟩:=HR1.out 9 _ rfl;obtain ⟨y10,g10⟩:=HR1.out 10 _ rfl;obtain ⟨y11,g11⟩:=HR1.out 11 _ rfl;obtain ⟨y12,g12⟩:=HR1.out 12 _ rfl
      go_wp2
      have hf:=HFIN.out;rw [HY2.out] at hf;have hL:=N245;refine a_m ⟨w.heap.size+1,0,none⟩ rfl rfl rfl hL ?_;refine i_p HT.out HE.out ?_;exact e_k (t:=⟨tg,t.r,t.fs++[fr],t.st,t.ft,t.lf⟩) HLEN.out HLN.out hf.2.1 hf.2.2
end Go.Proofs.YtogdpojnbgeknaaGreatDoor
