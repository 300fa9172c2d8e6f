import Derived.Test.YtogdpojnbgeknaaGreatDoorT2
import Derived.Test.YtogdpojnbgeknaaGreatDoorT0
import Derived.Deep.RegionHeld3
import Derived.Deep.DrawnRows
set_option maxRecDepth 100000
set_option maxHeartbeats 16000000
namespace Go.Proofs.YtogdpojnbgeknaaGreatDoor
open Go.ChangeShapes Go.WideShapes Go.ChangeAt Go.RowKit
open Gen
open Lib (hid)
def u_u (t:Thr) (w:World) (e:Ending) (w':World):Prop:=
 ∃ fa fc la lc,e=.returned (.agg (thC t fa t.fs.length fc la t.lf.length lc).toArray)∧Cap fa t.fs.length fc∧w'.ownsRow w.heap.size 105 5 (.slice fa t.fs.length fc) t.fs.length (t.fs.flatMap d_8) ∧
  Vs repFr (fun b=>w.heap.size≤b) w' fa t.fs.length t.fs∧Cap la t.lf.length lc∧Vs repInt (fun b=>w.heap.size≤b∧(Value.slice fa t.fs.length fc).ownBlock≠some b) w' la t.lf.length t.lf∧Below w.heap.size w w'
theorem h_U (t:Thr) (fa la:Option Addr) (fn fc ln lc:Nat) (w:World) (F:ThF w fa fn fc la ln lc t) (h1:fn≤1000) (h2:ln≤1000) :
  Calls Tryz.prog 165 #[.agg (thC t fa fn fc la ln lc).toArray] w (u_u t w):=by
 obtain ⟨W,hW⟩:=nm ((w.alloc (Obj.cells (thC t fa fn fc la ln lc).toArray 46)).alloc (Obj.cells thN.toArray 46));have X:=N50;have R:=N14;have hB:=N2;have hz:=N84;have C1:=F.fcap;have C2:=F.lcap;have S1:=g_B hB F.fs;have S2:=a_z (a_C hB) (r_X F.lf);have ⟨HX,HR,HB,HW,HZ⟩:=hh5 X R hB hW hz;clear hW X R hB F hz
 go_enter Tryz.func165,Tryz.ntmps165
 exact J1
def t_y (t:Thr) (x:Int) (w:World) (e:Ending) (w':World):Prop:=
 ∃ fa fc la lc,e=.returned (.tuple #[.agg (thC t fa t.fs.length fc la t.lf.length lc).toArray,.int .i64 x])∧ThF w' fa t.fs.length fc la t.lf.length lc t∧Below w.heap.size w w'
structure ThQ (Q:Nat→Prop) (w:World) (fa:Option Addr) (fn fc:Nat) (la:Option Addr) (ln lc:Nat) (t:Thr):Prop where
 fcap:Cap fa fn fc
 fs:Vs repFr Q w fa fn t.fs
 lcap:Cap la ln lc
 lf:Vs repInt Q w la ln t.lf
theorem ThQ.f {Q:Nat→Prop} {w:World} {fa la:Option Addr} {fn fc ln lc:Nat} {t:Thr} (h:ThQ Q w fa fn fc la ln lc t):ThF w fa fn fc la ln lc t:=⟨h.fcap,d_3 h.fs,h.lcap,d_3 h.lf⟩
theorem a_w {Q:Nat→Prop} {w w':World} {fa la:Option Addr} {fn fc ln lc:Nat} {t:Thr} (hk:Kept Q w w') (h:ThQ Q w fa fn fc la ln lc t):ThQ Q w' fa fn fc la ln lc t:=⟨h.fcap,a_z hk h.fs,h.lcap,a_z hk h.lf⟩
theorem b_y {Q Q':Nat→Prop} {w:World} {fa la:Option Addr} {fn fc ln lc:Nat} {t:Thr} (hQ:∀ b,Q b→Q' b) (h:ThQ Q w fa fn fc la ln lc t):ThQ Q' w fa fn fc la ln lc t:=⟨h.fcap,b_e hQ h.fs,h.lcap,b_e hQ h.lf⟩
def ThPostF (t:Thr) (x:Int) (w:World) (e:Ending) (w':World):Prop:=
 ∃ fa fc la lc,e=.returned (.tuple #[.agg (thC t fa t.fs.length fc la t.lf.length lc).toArray,.int .i64 x])∧ThQ (fun b=>w.heap.size≤b) w' fa t.fs.length fc la t.lf.length lc t∧Below w.heap.size w w'
theorem ThPostF.post {t:Thr} {x:Int} {w w':World} {e:Ending} (h:ThPostF t x w e w'):t_y t x w e w':=by
 obtain ⟨fa,fc,la,lc,h1,h2,h3⟩:=h;exact ⟨fa,fc,la,lc,h1,h2.f,h3⟩
theorem i_a {t t':Thr} {x x':Int} {w w':World} {e:Ending} (ht:t=t') (hx:x=x') (h:ThPostF t' x' w e w'):ThPostF t x w e w':=by subst ht;subst hx;exact h
theorem b_X {t:Thr} {x y:Int} {w w':World} (ht:t=d_E) (hx:x=y) (hb:Below w.heap.size w w'):ThPostF t x w (.returned (.tuple #[.agg thN.toArray,.int .i64 y])) w':=by
 subst ht;subst hx;exact ⟨none,0,none,0,rfl,⟨b_T,d_c,b_T,d_c⟩,hb⟩
def e_g (t:Thr):Int:=if a_1 t=true then (if t.fs.length=0 then 8 else 0) else 1
def e_x (t:Thr):Fr:=t.fs.getD (t.fs.length - 1) (0,0,0,0,0)
def f_0 (t:Thr):Thr:=if e_g t=0 then ⟨(e_x t).1,j_B t.r (e_x t).2.1 (e_x t).2.2.1 (e_x t).2.2.2.1 (e_x t).2.2.2.2,t.fs.take (t.fs.length - 1),t.st,t.ft,t.lf⟩ else d_E
theorem i_m {t:Thr} (h:e_g t≠0):f_0 t=d_E:=by rw [f_0,if_neg h]
theorem d_G {t:Thr} (h:a_1 t=true):t.fs.length≤6∧t.lf.length≤8:=by
 simp only [a_1,Bool.and_eq_true] at h;exact ⟨k_Z h.1.1.2,k_1 h.2⟩
def u_A (t:Thr) (fs:List Fr) (w:World) (e:Ending) (w':World):Prop:=
 ∃ fa fc la lc,e=.returned (.agg (thC t fa fs.length fc la t.lf.length lc).toArray)∧Cap fa fs.length fc∧Vs repFr (fun b=>w.heap.size≤b) w' fa fs.length fs∧Cap la t.lf.length lc∧Vs repInt (fun b=>w.heap.size≤b) w' la t.lf.length t.lf∧Below w.heap.size w w'
theorem m_x (t:Thr) (fs:List Fr) (fa la:Option Addr) (fn fc ln lc:Nat) (w:World) (hf:Cap fa fn fc) (S:Vs repFr Any w fa fn fs) (hl:Cap la ln lc) (L:Vs repInt Any w la ln t.lf) (h1:fn≤1000) (h2:ln≤1000) :
  Calls Tryz.prog 165 #[.agg (thC t fa fn fc la ln lc).toArray] w (u_A t fs w):=
 (h_U ⟨t.pc,t.r,fs,t.st,t.ft,t.lf⟩ fa la fn fc ln lc w ⟨hf,S,hl,L⟩ h1 h2).mono (fun _ _ ⟨fa2,fc2,la2,lc2,h,a,_,c,d,e',f⟩=>⟨fa2,fc2,la2,lc2,h,a,c,d,b_e (fun _ h=>h.1) e',f⟩)
theorem k_r (t:Thr) (fa la:Option Addr) (fn fc ln lc:Nat) (w:World) (F:ThF w fa fn fc la ln lc t) :
  Calls Tryz.prog 161 #[.agg (thC t fa fn fc la ln lc).toArray] w (ThPostF (f_0 t) (e_g t) w):=by
 obtain ⟨W,hW⟩:=nm ((w.alloc (Obj.cells (thC t fa fn fc la ln lc).toArray 46)).alloc (Obj.cells thN.toArray 46));have X:=N50;have R:=N14;have hB:=N2;have hz:=N84;have FW:=d_a hB F;have ⟨HX,HR,HB,HW,HZ,HF⟩:=hh6 X R hB hW hz F;clear hW X R hB F hz
 go_enter Tryz.func161,Tryz.ntmps161
 go_upto_region 1 with fail
 rw [←HW.out];have k0:=(HX.out 0 _ rfl).1;have k1:=(HX.out 1 _ rfl).1;have k2:=(HX.out 2 _ rfl).1;have k3:=(HX.out 3 _ rfl).1;have k4:=(HX.out 4 _ rfl).1;have k5:=(HX.out 5 _ rfl).1;have k6:=(HX.out 6 _ rfl).1;have k7:=(HX.out 7 _ rfl).1;have k8:=(HX.out 8 _ rfl).1;have k9:=(HX.out 9 _ rfl).1;have k10:=(HX.out 10 _ rfl).1;have k11:=(HX.out 11 _ rfl).1;have k12:=(HX.out 12 _ rfl).1
 cases hr:a_1 t with
 | false =>
  have HE:=hid (show e_g t=1 by rw [e_g,if_neg (by rw [hr];decide)]);have H1:=hid hr;clear hr
  go_wp2_with fail
  refine (d_d t fa la fn fc ln lc _ FW).mono ?_;rintro e w1 ⟨rfl,hb1⟩;rw [H1.out];have HR1:=hid (a_i hb1 HR.out);have HB1:=hid (a_b HB.out hb1);clear hb1 FW k0 k1 k2 k3 k4 k5 k6 k7 k8 k9 k10 k11 k12;exact J37
 | true =>
  have HL:=hid (d_G hr);have H1:=hid hr;clear hr
  go_wp2_with fail
  refine (d_d t fa la fn fc ln lc _ FW).mono ?_;rintro e w1 ⟨rfl,hb1⟩;rw [H1.out];have hz1:=hb1.size;rw [HZ.out] at hz1;have X1:=a_i hb1 HX.out;have HX1:=hid X1;have HR1:=hid (a_i hb1 HR.out);have HB1:=hid (a_b HB.out hb1);have F1:=d_a hb1 FW;have hfn:t.fs.length=fn:=F1.fs.1;have hln:t.lf.length=ln:=F1.lf.1;have hn6:fn≤6:=by have:=HL.out.1;omega
  have hl8:ln≤8:=by have:=HL.out.2;omega
  have ⟨HFN,HLN⟩:=hh2 hfn hln;clear hb1 FW k0 k1 k2 k3 k4 k5 k6 k7 k8 k9 k10 k11 k12 hfn hln;have k9:=(X1 9 _ rfl).1;clear X1
  by_cases h0:fn=0
  ·have HE:=hid (show e_g t=8 by rw [e_g,if_pos H1.out,if_pos (by rw [HFN.out];exact h0)]);subst h0;clear F1;exact J37
  ·obtain ⟨b,o,x0,x1,x2,x3,x4,rfl,hx,c0,c1,c2,c3,c4⟩:=s_n F1.fs (show fn - 1 < fn by omega);have HE:=hid (show e_g t=0 by rw [e_g,if_pos H1.out,if_neg (by rw [HFN.out];exact h0)])
   have HT:=hid (show f_0 t=⟨x0,j_B t.r x1 x2 x3 x4,t.fs.take (fn - 1),t.st,t.ft,t.lf⟩ by
    have hl:e_x t=(x0,x1,x2,x3,x4):=by rw [e_x,HFN.out,List.getD_eq_getElem?_getD,hx];rfl
    rw [f_0,if_pos HE.out,hl,HFN.out])
   have i1:(1:Int)≤fn:=by omega
   have i2:¬ ((fn:Int) - 1 < 0):=by omega
   have i3:fn≤fc:=F1.fcap.1;have i4:fc≤9223372036854775807:=F1.fcap.2.1;have HF1:=hid F1;clear F1 hx h0;obtain ⟨Z0,hZ0⟩:=nm (w1.alloc (Obj.cells #[.int .i64 x0,.int .i64 x1,.int .i64 x2,.int .i64 x3,.int .i64 x4] 105));have b0:Below w1.heap.size w1 Z0:=by rw [hZ0];exact (Below.refl _ _).alloc (Nat.le_refl _) _
   have V0:a_p Z0 w1.heap.size [.int .i64 x0,.int .i64 x1,.int .i64 x2,.int .i64 x3,.int .i64 x4]:=by rw [hZ0];exact a_e [.int .i64 x0,.int .i64 x1,.int .i64 x2,.int .i64 x3,.int .i64 x4] _ rfl
   have hzz:Z0.heap.size=w1.heap.size+1:=by rw [hZ0];simp
   have X2:=a_i b0 HX1.out;have R2:=a_i b0 HR1.out;have B2:=a_b HB1.out b0;have F2:=d_a b0 HF1.out;have ⟨HZ0,HX2⟩:=hh2 hZ0 X2;clear hZ0
   go_upto_region 7 with fail
   rw [←HZ0.out];clear k9 c0 c1 c2 c3 c4;obtain ⟨k9,g9⟩:=X2 9 _ rfl;obtain ⟨Z1,hZ1⟩:=nm (Z0.setCell ⟨w.heap.size,9,none⟩ (.slice (some ⟨b,o,none⟩) (fn - 1) fc));have Q1:∀ bb,bb < w.heap.size∨w.heap.size+2≤bb→bb≠w.heap.size:=fun bb hb=>by omega
   have X3:a_p Z1 w.heap.size (thC t (some ⟨b,o,none⟩) (fn - 1) fc la ln lc):=by rw [hZ1];exact a_A X2 9 (by simp) _
   have R3:a_p Z1 (w.heap.size+1) thN:=by rw [hZ1];exact a_m R2 (by omega) _
   have V3:a_p Z1 w1.heap.size [.int .i64 x0,.int .i64 x1,.int .i64 x2,.int .i64 x3,.int .i64 x4]:=by rw [hZ1];exact a_m V0 (by omega) _
   have B3:Below w.heap.size w Z1:=by rw [hZ1];exact B2.setCell (p:=⟨w.heap.size,9,none⟩) (Nat.le_refl _) _
   have S3:Vs repFr Any Z1 (some ⟨b,o,none⟩) (fn - 1) (t.fs.take (fn - 1)):=g_B B3 (h_r HF.out.fs (fn - 1) (by omega));have L3:Vs repInt Any Z1 la ln t.lf:=g_B B3 HF.out.lf;have C3:=N219;have C4:Cap la ln lc:=HF.out.lcap;have hz3:Z1.heap.size=w1.heap.size+1:=by rw [hZ1,←hzz];simp [World.setCell]
   have ⟨HZ1,HX3,HR3,HV3,HB3,HZ3⟩:=hh6 hZ1 X3 R3 V3 B3 hz3;clear hZ1 X2 R2 B2 F2 X3 R3 V3 B3 b0 V0 hzz Q1 hz3
   go_upto_region 8 with fail
   rw [←HZ1.out];clear k9 g9;have k0:=(HX3.out 0 _ rfl).1;have k1:=(HX3.out 1 _ rfl).1;have k2:=(HX3.out 2 _ rfl).1;have k3:=(HX3.out 3 _ rfl).1;have k4:=(HX3.out 4 _ rfl).1;have k5:=(HX3.out 5 _ rfl).1;have k6:=(HX3.out 6 _ rfl).1;have k7:=(HX3.out 7 _ rfl).1;have k8:=(HX3.out 8 _ rfl).1;have k9:=(HX3.out 9 _ rfl).1;have k10:=(HX3.out 10 _ rfl).1;have k11:=(HX3.out 11 _ rfl).1;have k12:=(HX3.out 12 _ rfl).1
   go_wp2_with fail
   have h0:=m_x t (t.fs.take (fn - 1)) (some ⟨b,o,none⟩) la (fn - 1) fc ln lc Z1 C3 S3 C4 L3 (by omega) (by omega);with_reducible refine h0.mono ?_
   clear h0;rintro e w2 ⟨fa2,fc2,la2,lc2,rfl,d1,d2,d3,d4,hb2⟩;obtain ⟨fn2,hfn2⟩:=mn ((t.fs.take (fn - 1)).length);obtain ⟨ln2,hln2⟩:=mn (t.lf.length);rw [hfn2] at d1 d2 ⊢;rw [hln2] at d3 d4 ⊢;have hz2:=hb2.size;rw [HZ3.out] at hz2;obtain ⟨Y0,hY0⟩:=nm (w2.alloc (Obj.cells (thC t fa2 fn2 fc2 la2 ln2 lc2).toArray 46));have bY0:=N188;have K0:a_p Y0 w2.heap.size (thC t fa2 fn2 fc2 la2 ln2 lc2):=by rw [hY0];exact a_e (thC t fa2 fn2 fc2 la2 ln2 lc2) _ rfl
   have X4:=a_i bY0 (a_i hb2 HX3.out);have R4:=a_i bY0 (a_i hb2 HR3.out);have V4:=a_i bY0 (a_i hb2 HV3.out);have B4:=a_b (a_b HB3.out hb2) bY0;have S4:=a_z (a_C bY0) (b_e (Q':=fun b=>w1.heap.size+1≤b∧b < w2.heap.size) (fun b hb=>by have:=HZ3.out;omega) (c_O d2));have L4:=a_z (a_C bY0) (b_e (Q':=fun b=>w1.heap.size+1≤b∧b < w2.heap.size) (fun b hb=>by have:=HZ3.out;omega) (c_O d4));obtain ⟨Y1,hY1⟩:=nm (Y0.setCell ⟨w2.heap.size,0,none⟩ (.int .i64 x0));have K1:a_p Y1 w2.heap.size (.int .i64 x0::((thC t fa2 fn2 fc2 la2 ln2 lc2):List Value).tail):=by rw [hY1];exact a_A K0 0 (by simp) _
   have X5:a_p Y1 w.heap.size (thC t (some ⟨b,o,none⟩) (fn - 1) fc la ln lc):=by rw [hY1];exact a_m X4 (by omega) _
   have R5:a_p Y1 (w.heap.size+1) thN:=by rw [hY1];exact a_m R4 (by omega) _
   have V5:a_p Y1 w1.heap.size [.int .i64 x0,.int .i64 x1,.int .i64 x2,.int .i64 x3,.int .i64 x4]:=by rw [hY1];exact a_m V4 (by omega) _
   have B5:Below w.heap.size w Y1:=by rw [hY1];exact B4.setCell (p:=⟨w2.heap.size,0,none⟩) (by show _≤w2.heap.size;omega) _
   have S5:Vs repFr (fun b=>w1.heap.size+1≤b∧b < w2.heap.size) Y1 fa2 fn2 (t.fs.take (fn - 1)):=by rw [hY1];exact a_z (a_T _ _ _ (fun b hb=>by show b≠w2.heap.size;omega)) S4
   have L5:Vs repInt (fun b=>w1.heap.size+1≤b∧b < w2.heap.size) Y1 la2 ln2 t.lf:=by rw [hY1];exact a_z (a_T _ _ _ (fun b hb=>by show b≠w2.heap.size;omega)) L4
   have ⟨HFN2,HLN2,HY0,HY1,HK1,HX5,HR5,HV5,HB5,HS5,HL5⟩:=hh11 hfn2 hln2 hY0 hY1 K1 X5 R5 V5 B5 S5 L5;have HD:=hid (And.intro d1 d3);have v0:=(V4 0 _ rfl).1;obtain ⟨z0,f0⟩:=K0 0 _ rfl;clear hY0 hY1 K1 X4 R4 V4 B4 S4 L4 K0 X5 R5 V5 B5 S5 L5 d1 d2 d3 d4 hb2 bY0 k0 k1 k2 k3 k4 k5 k6 k7 k8 k9 k10 k11 k12 hfn2 hln2 S3 L3 C3 C4
   go_upto_region 9 with fail
   rw [←HY0.out]
   go_upto_region 10 with fail
   rw [←HY1.out];clear v0 z0 f0;have k0:=(HX5.out 0 _ rfl).1;have k1:=(HX5.out 1 _ rfl).1;have k2:=(HX5.out 2 _ rfl).1;have k3:=(HX5.out 3 _ rfl).1;have k4:=(HX5.out 4 _ rfl).1;have k5:=(HX5.out 5 _ rfl).1;have k6:=(HX5.out 6 _ rfl).1;have k7:=(HX5.out 7 _ rfl).1;have k8:=(HX5.out 8 _ rfl).1;have v0:=(HV5.out 0 _ rfl).1;have v1:=(HV5.out 1 _ rfl).1;have v2:=(HV5.out 2 _ rfl).1;have v3:=(HV5.out 3 _ rfl).1;have v4:=(HV5.out 4 _ rfl).1
   go_wp2_with fail
   have h0:=j_C t.r x1 x2 x3 x4 Y1;with_reducible refine h0.mono ?_
   clear h0;rintro e w3 ⟨rfl,hb3⟩;obtain ⟨r2,hr2⟩:=mn (j_B t.r x1 x2 x3 x4);rw [hr2];have HR2:=hid hr2;have hz5:Y1.heap.size≤w3.heap.size:=hb3.size;have K2:=a_i hb3 HK1.out;have R6:=a_i hb3 HR5.out;have B6:=a_b HB5.out hb3;have S6:=g_B hb3 HS5.out;have L6:=g_B hb3 HL5.out;obtain ⟨U,hU⟩:=nm (d_o w3 w2.heap.size 1 (rgC r2));have K3:a_p U w2.heap.size [.int .i64 x0,.int .i64 (r2 0),.int .i64 (r2 1),.int .i64 (r2 2),.int .i64 (r2 3),.int .i64 (r2 4),.int .i64 (r2 5),.int .i64 (r2 6),.int .i64 (r2 7),.slice fa2 fn2 fc2,.int .i64 t.st,.int .i64 t.ft,.slice la2 ln2 lc2]:=by rw [hU];exact b_b (xs:=(rgC r2)) 1 K2 (by simp)
   have R7:a_p U (w.heap.size+1) thN:=by rw [hU];exact a_j (by omega) R6
   have B7:Below w.heap.size w U:=by rw [hU];exact a_h (by omega) B6
   have S7:Vs repFr (fun b=>w1.heap.size+1≤b∧b < w2.heap.size) U fa2 fn2 (t.fs.take (fn - 1)):=by rw [hU];exact a_z (a_t (fun b hb=>by omega)) S6
   have L7:Vs repInt (fun b=>w1.heap.size+1≤b∧b < w2.heap.size) U la2 ln2 t.lf:=by rw [hU];exact a_z (a_t (fun b hb=>by omega)) L6
   have ⟨HK3,HR7⟩:=hh2 K3 R7;obtain ⟨U2,hU2⟩:=nm (d_o U (w.heap.size+1) 0 [.int .i64 x0,.int .i64 (r2 0),.int .i64 (r2 1),.int .i64 (r2 2),.int .i64 (r2 3),.int .i64 (r2 4),.int .i64 (r2 5),.int .i64 (r2 6),.int .i64 (r2 7),.slice fa2 fn2 fc2,.int .i64 t.st,.int .i64 t.ft,.slice la2 ln2 lc2]);have R8:a_p U2 (w.heap.size+1) [.int .i64 x0,.int .i64 (r2 0),.int .i64 (r2 1),.int .i64 (r2 2),.int .i64 (r2 3),.int .i64 (r2 4),.int .i64 (r2 5),.int .i64 (r2 6),.int .i64 (r2 7),.slice fa2 fn2 fc2,.int .i64 t.st,.int .i64 t.ft,.slice la2 ln2 lc2]:=by rw [hU2];exact a_q R7 rfl
   have HFIN:Hid (a_p U2 (w.heap.size+1) [.int .i64 x0,.int .i64 (r2 0),.int .i64 (r2 1),.int .i64 (r2 2),.int .i64 (r2 3),.int .i64 (r2 4),.int .i64 (r2 5),.int .i64 (r2 6),.int .i64 (r2 7),.slice fa2 fn2 fc2,.int .i64 t.st,.int .i64 t.ft,.slice la2 ln2 lc2]∧ThQ (fun b=>w.heap.size≤b) U2 fa2 fn2 fc2 la2 ln2 lc2 ⟨x0,r2,t.fs.take (fn - 1),t.st,t.ft,t.lf⟩∧Below w.heap.size w U2):=
    ⟨R8,⟨HD.out.1,b_e (Q:=fun b=>w1.heap.size+1≤b∧b < w2.heap.size) (fun b hb=>by omega) (by rw [hU2];exact a_z (a_t (fun b hb=>by omega)) S7),HD.out.2,b_e (Q:=fun b=>w1.heap.size+1≤b∧b < w2.heap.size) (fun b hb=>by omega) (by rw [hU2];exact a_z (a_t (fun b hb=>by omega)) L7)⟩,by rw [hU2];exact a_h (by omega) B7⟩
   have ⟨HU,HU2,HK2⟩:=hh3 hU hU2 K2;clear hU hU2 K2 R6 B6 S6 L6 K3 R7 B7 S7 L7 R8 hb3 k0 k1 k2 k3 k4 k5 k6 k7 k8 v0 v1 v2 v3 v4 hr2;obtain ⟨y0,g0⟩:=HK2.out 0 _ rfl;obtain ⟨y1,g1⟩:=HK2.out 1 _ rfl;obtain ⟨y2,g2⟩:=HK2.out 2 _ rfl;obtain ⟨y3,g3⟩:=HK2.out 3 _ rfl;obtain ⟨y4,g4⟩:=HK2.out 4 _ rfl;obtain ⟨y5,g5⟩:=HK2.out 5 _ rfl;obtain ⟨y6,g6⟩:=HK2.out 6 _ rfl;obtain ⟨y7,g7⟩:=HK2.out 7 _ rfl;obtain ⟨y8,g8⟩:=HK2.out 8 _ rfl
   go_upto_region 11 with fail
   have HU':Hid (U=(((((((w3.setCell ⟨w2.heap.size,1,none⟩ (.int .i64 (r2 0))).setCell ⟨w2.heap.size,2,none⟩ (.int .i64 (r2 1))).setCell ⟨w2.heap.size,3,none⟩ (.int .i64 (r2 2))).setCell ⟨w2.heap.size,4,none⟩ (.int .i64 (r2 3))).setCell ⟨w2.heap.size,5,none⟩ (.int .i64 (r2 4))).setCell ⟨w2.heap.size,6,none⟩ (.int .i64 (r2 5))).setCell ⟨w2.heap.size,7,none⟩ (.int .i64 (r2 6))).setCell ⟨w2.heap.size,8,none⟩ (.int .i64 (r2 7))):=HU.out;rw [←HU'.out];clear y0 y1 y2 y3 y4 y5 y6 y7 y8 g0 g1 g2 g3 g4 g5 g6 g7 g8;have k0:=(HK3.out 0 _ rfl).1;have k1:=(HK3.out 1 _ rfl).1;have k2:=(HK3.out 2 _ rfl).1;have k3:=(HK3.out 3 _ rfl).1;have k4:=(HK3.out 4 _ rfl).1;have k5:=(HK3.out 5 _ rfl).1;have k6:=(HK3.out 6 _ rfl).1;have k7:=(HK3.out 7 _ rfl).1;have k8:=(HK3.out 8 _ rfl).1;have k9:=(HK3.out 9 _ rfl).1;have k10:=(HK3.out 10 _ rfl).1;have k11:=(HK3.out 11 _ rfl).1;have k12:=(HK3.out 12 _ rfl).1;obtain ⟨y0,g0⟩:=HR7.out 0 _ rfl;obtain ⟨y1,g1⟩:=HR7.out 1 _ rfl;obtain ⟨y2,g2⟩:=HR7.out 2 _ rfl;obtain ⟨y3,g3⟩:=HR7.out 3 _ rfl;obtain ⟨y4,g4⟩:=HR7.out 4 _ rfl;obtain ⟨y5,g5⟩:=HR7.out 5 _ rfl;obtain ⟨y6,g6⟩:=HR7.out 6 _ rfl;obtain ⟨y7,g7⟩:=HR7.out 7 _ rfl;obtain ⟨y8,g8⟩:=HR7.out 8 _ rfl;obtain ⟨y9,g9⟩:=HR7.out 9 _ rfl;obtain ⟨y10,g10⟩:=HR7.out 10 _ rfl;obtain ⟨y11,g11⟩:=HR7.out 11 _ rfl;obtain ⟨y12,g12⟩:=HR7.out 12 _ rfl
   go_wp2
   have hf:=HFIN.out;rw [HU2.out] at hf;have hL:=b_r _ _ ⟨x0,r2,t.fs.take (fn - 1),t.st,t.ft,t.lf⟩ fa2 la2 fn2 fc2 ln2 lc2 hf.1;refine a_l ⟨w.heap.size+1,0,none⟩ rfl rfl rfl hL ?_;refine i_a HT.out HE.out ?_;rw [HR2.out];have hf2:=hf.2.1;have hf3:=hf.2.2;have e1:=HFN2.out;have e2:=HLN2.out;subst e1 e2;exact ⟨fa2,fc2,la2,lc2,rfl,hf2,hf3⟩
end Go.Proofs.YtogdpojnbgeknaaGreatDoor
namespace Go.Proofs.YtogdpojnbgeknaaGreatDoor
def c_X (n:Nat):Code→Option Code
 | .region id ops b=>if id=n then some (.region id ops b) else none
 | .seq a b=>match c_X n a with
  | some c=>some c
  | none=>c_X n b
 | .cond _ a b=>match c_X n a with
  | some c=>some c
  | none=>c_X n b
 | .block _ c=>c_X n c
 | .loop c=>c_X n c
 | .scope c=>c_X n c
 | _=>none
section
variable {P:Program} {ops:Array Oper} {Q:Exit→Act→World→Prop} {md:Region.Mode}
def Up (listed:Array Bool) (i:Nat):Prop:=listed.getD i true=true
theorem up_set {listed:Array Bool} {i j:Nat}:Up (listed.setIfInBounds i true) j ↔ j=i∨Up listed j:=by
 unfold Up;simp only [Array.getD_eq_getD_getElem?,Array.getElem?_setIfInBounds]
 by_cases h:i=j
 ·subst h
  by_cases hl:i < listed.size
  ·simp [hl]
  ·simp [hl]
 ·rw [if_neg h];simp [Ne.symm h]
theorem d_U {listed:Array Bool} {i:Nat}:Up (listed.setIfInBounds i true) i:=up_set.2 (.inl rfl)
theorem a_o {listed:Array Bool} {i j:Nat} (h:Up listed j):Up (listed.setIfInBounds i true) j:=up_set.2 (.inr h)
theorem a_a {listed:Array Bool} {i j:Nat} (h:Up (listed.setIfInBounds i true) j) (hne:j≠i):Up listed j:=(up_set.1 h).resolve_left hne
theorem upk {p:Prop} {listed:Array Bool} {i j:Nat} (h:Up listed j→p) (hne:(j==i)=false) (hu:Up (listed.setIfInBounds i true) j):p:=h (a_a hu (by simpa using hne))
theorem cj {a b:Prop} (x:a) (y:b):a∧b:=⟨x,y⟩
def c_A (md:Region.Mode) (o:Oper):List Nat:=(o.after.toList.filter (Region.binds md)).map (·.on)
def Steps (P:Program) (md:Region.Mode) (ops:Array Oper) (Q:Exit→Act→World→Prop) (Inv:Array Bool→Act→World→Prop) (rs:List Nat):Prop:=
 ∀ i∈rs,∀ listed a w,Inv listed a w→i∈Region.ready md ops listed→wpOp P ops Q i (fun a' w'=>Inv (listed.setIfInBounds i true) a' w') a w
theorem Steps.nil {Inv:Array Bool→Act→World→Prop}:Steps P md ops Q Inv []:=fun _ h=>by cases h
theorem Steps.cons {Inv:Array Bool→Act→World→Prop} {i:Nat} {o:Oper} {rs ws:List Nat} (ho:ops[i]?=some o) (hw:c_A md o=ws)
  (h:∀ listed a w,Inv listed a w→¬ Up listed i→(∀ j∈ws,Up listed j)→∀ K':Act→World→Prop,Shut (∀ a' w',Inv (listed.setIfInBounds i true) a' w'→K' a' w')→if Region.wanted o (yielded ops a.tmps)=true then Oper.wp P o a w K' Q else K' (a.put o.dst undef) w)
  (hs:Steps P md ops Q Inv rs):Steps P md ops Q Inv (i::rs):=fun j hj listed a w hi hr=>by
 rcases List.mem_cons.1 hj with rfl | hj
 ·refine wpOp_step ho (fun K' hK=>h listed a w hi ?_ ?_ K' hK)
  ·have:=(mem_ready.1 hr).1;unfold Up;rw [this];decide
  ·obtain ⟨_,o',ho',hall⟩:=mem_ready.1 hr;rw [ho] at ho';obtain rfl:o=o':=by injection ho'
   intro k hk;rw [←hw] at hk;obtain ⟨e,he,rfl⟩:=List.mem_map.1 hk;obtain ⟨he1,he2⟩:=List.mem_filter.1 he;have:=hall e (by simpa using he1) he2;unfold Up;rw [Array.getD_eq_getD_getElem?] at this ⊢
   cases hx:listed[e.on]? with
   | none=>rfl
   | some b=>rw [hx] at this;simpa using this
 ·exact hs j hj listed a w hi hr
def i_l (md:Region.Mode) (ops:Array Oper):Bool:=(List.range ops.size).all fun i=>match ops[i]? with | some o=>(c_A md o).all (fun j=>decide (j < i)) | none=>true
theorem r_F {listed:Array Bool} (hsz:listed.size=ops.size) (hb:i_l md ops=true) (hr:Region.ready md ops listed=[]):∀ i,Up listed i:=by
 intro i
 induction i using Nat.strongRecOn with
 | _ i ih =>
  by_cases hi:i < ops.size
  ·cases hu:listed.getD i true with
   | true=>exact hu
   | false =>
    exfalso
    obtain ⟨o,ho⟩:∃ o,ops[i]?=some o:=⟨ops[i],by simp [hi]⟩;have hx:=List.all_eq_true.1 hb i (List.mem_range.2 hi);rw [ho] at hx
    have hmem:i∈Region.ready md ops listed:=mem_ready.2 ⟨hu,o,ho,fun e he hbd=>by
     have hlt:e.on < i:=by
      have:=List.all_eq_true.1 hx e.on (List.mem_map.2 ⟨e,List.mem_filter.2 ⟨by simpa using he,hbd⟩,rfl⟩)
      simpa using this
     have h2:=ih e.on hlt;unfold Up at h2;have hlt2:e.on < listed.size:=by omega
     rw [Array.getD_eq_getD_getElem?] at h2 ⊢
     simpa [hlt2] using h2⟩
    rw [hr] at hmem
    cases hmem
  ·have:listed[i]?=none:=by rw [Array.getElem?_eq_none_iff];omega
   unfold Up;rw [Array.getD_eq_getD_getElem?,this];rfl
theorem n_T {l:List Bool} {i:Nat} (h:l[i]?=some false):(l.set i true).count false+1=l.count false:=by
 induction l generalizing i with
 | nil=>simp at h
 | cons b l ih =>
  cases i with
  | zero=>simp at h;subst h;simp
  | succ i =>
   have:=ih (i:=i) (by simpa using h);simp only [List.set_cons_succ,List.count_cons]
   omega
theorem p_I {Inv:Array Bool→Act→World→Prop} (hb:i_l md ops=true) (hs:Steps P md ops Q Inv (List.range ops.size))
  (hend:∀ listed a w,Inv listed a w→(∀ i,Up listed i)→Q .normal a w) :
  ∀ (fuel:Nat) (listed:Array Bool) (a:Act) (w:World),listed.size=ops.size→listed.toList.count false≤fuel→Inv listed a w→wpAny P md ops Q fuel listed a w:=by
 intro fuel
 induction fuel with
 | zero =>
  intro listed a w hsz hc hi
  have hr:Region.ready md ops listed=[]:=by
   apply List.eq_nil_iff_forall_not_mem.2
   intro i hi;have h1:=(mem_ready.1 hi).1
   have h2:false∈listed.toList:=by
    by_cases hl:i < listed.size
    ·have:listed[i]=false:=by simpa [hl] using h1
     rw [←this];simp
    ·simp [hl] at h1
   have h3:=List.count_pos_iff.2 h2
   omega
  exact ⟨hr,hend listed a w hi (r_F hsz hb hr)⟩
 | succ fuel ih =>
  intro listed a w hsz hc hi;refine ⟨fun hr=>hend listed a w hi (r_F hsz hb hr),fun i hr=>?_⟩;obtain ⟨h1,o,ho,_⟩:=mem_ready.1 hr
  have hlt:i < ops.size:=by
   by_cases h:i < ops.size
   ·exact h
   ·have:ops[i]?=none:=by rw [Array.getElem?_eq_none_iff];omega
    rw [this] at ho;cases ho
  refine wpOp_mono (fun a' w' h'=>ih _ a' w' (by simpa using hsz) ?_ h') (hs i (List.mem_range.2 hlt) listed a w hi hr);have hl:i < listed.size:=by omega
  have h2:listed.toList[i]?=some false:=by
   have:listed[i]=false:=by simpa [hl] using h1
   simp [hl,this]
  have:=n_T h2;simp only [Array.toList_setIfInBounds]
  omega
def StepsL (P:Program) (md:Region.Mode) (ops:Array Oper) (Q:Exit→Act→World→Prop) (Inv:Array Bool→Act→World→Prop) (k:Nat) (l:List Oper):Prop:=
 ∀ j o,l[j]?=some o→ops[k+j]?=some o→∀ listed a w,Inv listed a w→k+j∈Region.ready md ops listed→wpOp P ops Q (k+j) (fun a' w'=>Inv (listed.setIfInBounds (k+j) true) a' w') a w
theorem StepsL.nil {Inv:Array Bool→Act→World→Prop} {k:Nat}:StepsL P md ops Q Inv k []:=fun _ _ h=>by simp at h
theorem StepsL.cons {Inv:Array Bool→Act→World→Prop} {k:Nat} {o:Oper} {l:List Oper} {ws:List Nat} (hw:c_A md o=ws)
  (h:∀ listed a w,Inv listed a w→¬ Up listed k→(∀ j∈ws,Up listed j)→∀ K':Act→World→Prop,Shut (∀ a' w',Inv (listed.setIfInBounds k true) a' w'→K' a' w')→if Region.wanted o (yielded ops a.tmps)=true then Oper.wp P o a w K' Q else K' (a.put o.dst undef) w)
  (hs:StepsL P md ops Q Inv (k+1) l):StepsL P md ops Q Inv k (o::l):=fun j o' hj ho listed a w hi hr=>by
 cases j with
 | zero =>
  obtain rfl:o=o':=by simpa using hj
  exact Steps.cons (rs:=[]) ho hw h Steps.nil _ (List.mem_singleton.2 rfl) listed a w hi hr
 | succ j =>
  have e:k+(j+1)=k+1+j:=by omega
  rw [e] at ho hr ⊢;exact hs j o' (by simpa using hj) ho listed a w hi hr
theorem StepsL.all {Inv:Array Bool→Act→World→Prop} {l:List Oper} (h:StepsL P md l.toArray Q Inv 0 l):Steps P md l.toArray Q Inv (List.range l.toArray.size):=fun i hi listed a w hI hr=>by
 have hlt:i < l.length:=by simpa using hi
 have:=h i l[i] (by simp [hlt]) (by simp [hlt]) listed a w hI (by simpa using hr)
 simpa using this
theorem b_s {id:Nat} {l:List Oper} {a:Act} {w:World} (Inv:Act→World→Array Bool→Act→World→Prop) (hm:P.follows .mixedOrders=true) (hb:i_l .any l.toArray=true)
  (h0:∀ listed,(∀ i,i < l.length→¬ Up listed i)→Inv a w listed a w.drew) (hs:StepsL P .any l.toArray Q (Inv a w) 0 l)
  (hend:∀ listed a' w',Inv a w listed a' w'→(∀ i,Up listed i)→Q .normal a' w'):(Code.region id l.toArray true).wp P Q a w:=by
 refine wp_region_any hm (p_I (Inv:=Inv a w) hb hs.all hend l.toArray.size _ a _ (by simp) (by simp) (h0 _ ?_));intro i hi hu;unfold Up at hu;simp [hi] at hu
end
end Go.Proofs.YtogdpojnbgeknaaGreatDoor
