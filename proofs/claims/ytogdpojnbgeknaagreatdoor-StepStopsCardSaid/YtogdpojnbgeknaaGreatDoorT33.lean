import Derived.Test.YtogdpojnbgeknaaGreatDoorT32
import Derived.Test.YtogdpojnbgeknaaGreatDoorT0
import Derived.Test.YtogdpojnbgeknaaGreatDoorT21
import Derived.Test.YtogdpojnbgeknaaGreatDoorT6
set_option maxRecDepth 100000
set_option maxHeartbeats 16000000
namespace Go.Proofs.YtogdpojnbgeknaaGreatDoor
open Go.ChangeShapes Go.WideShapes Go.ChangeAt Go.RowKit
open Gen
open Lib (hid)
def g_A (t:Thr) (a:Nat) (v:Int):Thr:={ t with r:=b_V t.r a v }
def p_Z (Q1:Nat→Prop) (h:Nat) (V:World) (L:WoL) (D:Int) (g b k ra rb rc:Nat) (kd va vb vc lv se sD:Int) (SW ST:List Int) (SB:List (List (Int×Int))):b_p:=[isV 0 (.pointer (some ⟨g,0,none⟩)),isV 1 (.pointer (some ⟨g,0,none⟩)),isV 2 (.pointer (some ⟨g,0,none⟩)),isV 3 (.pointer (some ⟨g,1,none⟩)),isV 4 (.agg #[.slice L.ws.a L.ws.n L.ws.c,.slice L.ts.a L.ts.n L.ts.c,.int .i64 D,.slice L.bs.a L.bs.n L.bs.c]),isV 5 (.pointer (some ⟨g,0,none⟩)),isV 6 (.pointer (some ⟨g,0,none⟩)),isV 7 (.pointer (some ⟨g,7,none⟩)),isV 8 (.int .i64 k),isV 9 (.int .i64 kd),isV 10 (.pointer (some ⟨b,k*13,none⟩)),isV 11 (.pointer (some ⟨h,2,none⟩)),isV 12 (.int .i64 rb),isV 13 (.pointer (some ⟨b,k*13,none⟩)),isV 14 (.pointer (some ⟨b,k*13+1,none⟩)),isV 15 (.pointer (some ⟨b,k*13+1+rb,none⟩)),isV 16 (.int .i64 vb),isV 17 (.pointer (some ⟨b,k*13,none⟩)),isV 18 (.pointer (some ⟨h,1,none⟩)),isV 19 (.int .i64 ra),isV 20 (.pointer (some ⟨b,k*13,none⟩)),isV 21 (.pointer (some ⟨b,k*13+1,none⟩)),isV 22 (.pointer (some ⟨b,k*13+1+ra,none⟩)),isV 23 (.int .i64 va),isV 24 (.pointer (some ⟨b,k*13,none⟩)),isV 25 (.pointer (some ⟨h,3,none⟩)),isV 26 (.int .i64 rc),isV 27 (.pointer (some ⟨b,k*13,none⟩)),isV 28 (.pointer (some ⟨b,k*13+1,none⟩)),isV 29 (.pointer (some ⟨b,k*13+1+rc,none⟩)),isV 30 (.int .i64 vc),([31],fun vz w=>∃ a n c a' n' c' q l d,vz=[.tuple #[.agg #[.slice a n c,.slice a' n' c',.int .i64 sD,.slice q l d],.int .i64 lv,.int .i64 se]]∧SlP Q1 w a n SW∧SlP Q1 w a' n' ST∧BlP Q1 w q l SB),([32,31],fun vz _=>∃ a n c a' n' c' q l d,vz=[.tuple #[.agg #[.slice a n c,.slice a' n' c',.int .i64 sD,.slice q l d],.int .i64 lv,.int .i64 se],.tuple #[.agg #[.slice a n c,.slice a' n' c',.int .i64 sD,.slice q l d],.int .i64 lv,.int .i64 se]]),([33,31],fun vz _=>∃ a n c a' n' c' q l d,vz=[.agg #[.slice a n c,.slice a' n' c',.int .i64 sD,.slice q l d],.tuple #[.agg #[.slice a n c,.slice a' n' c',.int .i64 sD,.slice q l d],.int .i64 lv,.int .i64 se]]),isV 34 (.int .i64 lv),isV 35 (.int .i64 se),([36],fun vz w=>∃ g,vz=[.pointer (some ⟨g,0,none⟩)]∧V.heap.size≤g∧∃ xs,a_p w g xs∧xs.length=4),([36,31],fun vz w=>∃ g a n c a' n' c' q l d,vz=[.pointer (some ⟨g,0,none⟩),.tuple #[.agg #[.slice a n c,.slice a' n' c',.int .i64 sD,.slice q l d],.int .i64 lv,.int .i64 se]]∧V.heap.size≤g∧a_p w g [.slice a n c,.slice a' n' c',.int .i64 sD,.slice q l d]∧SlP (fun b=>Q1 b∧b≠g) w a n SW∧SlP (fun b=>Q1 b∧b≠g) w a' n' ST∧BlP (fun b=>Q1 b∧b≠g) w q l SB),isV 38 (.int .i64 lv),isV 39 (.int .i64 se)]
theorem o_h (Q1:Nat→Prop) (h:Nat) (V:World) (L:WoL) (D:Int) (g b k ra rb rc:Nat) (kd va vb vc lv se sD:Int) (SW ST:List Int) (SB:List (List (Int×Int))):c_j (p_Z Q1  h  V  L  D  g b k ra rb rc  kd va vb vc lv se sD  SW ST  SB ):=a_d<|a_d<|a_d<|a_d<|a_d<|a_d<|a_d<|a_d<|a_d<|a_d<|a_d<|a_d<|a_d<|a_d<|a_d<|a_d<|a_d<|a_d<|a_d<|a_d<|a_d<|a_d<|a_d<|a_d<|a_d<|a_d<|a_d<|a_d<|a_d<|a_d<|a_d<|a_v (fun _ _ _ hb h=>by obtain ⟨a,n,c,a',n',c',q,l,d,h1,h0x,h1x,h2x⟩:=h;exact ⟨a,n,c,a',n',c',q,l,d,h1,a_r (fun _ _ _ _ h=>a_u hb h) h0x,a_r (fun _ _ _ _ h=>a_u hb h) h1x,a_G (fun _ _ _ _ h=>a_u hb h) h2x⟩)<|a_v (fun _ _ _ _ h=>h)<|a_v (fun _ _ _ _ h=>h)<|a_d<|a_d<|a_v (fun _ _ _ hb h=>by obtain ⟨g,h1,h2,xs,h3,h4⟩:=h;exact ⟨g,h1,h2,xs,a_i hb h3,h4⟩)<|a_v (fun _ _ _ hb h=>by obtain ⟨g,a,n,c,a',n',c',q,l,d,h1,h2,h3,h0x,h1x,h2x⟩:=h;exact ⟨g,a,n,c,a',n',c',q,l,d,h1,h2,a_i hb h3,a_r (fun _ _ _ _ h=>a_u hb h) h0x,a_r (fun _ _ _ _ h=>a_u hb h) h1x,a_G (fun _ _ _ _ h=>a_u hb h) h2x⟩)<|a_d<|a_d<|b_u
theorem q_l (Q1:Nat→Prop) (h:Nat) (V:World) (L:WoL) (D:Int) (g b k ra rb rc:Nat) (kd va vb vc lv se sD:Int) (SW ST:List Int) (SB:List (List (Int×Int))):∀ jz args wz wz',jz≠31→jz≠36→jz≠37→b_x (p_Z Q1  h  V  L  D  g b k ra rb rc  kd va vb vc lv se sD  SW ST  SB ) jz args wz→b_x (p_Z Q1  h  V  L  D  g b k ra rb rc  kd va vb vc lv se sD  SW ST  SB ) jz args wz':=by
 intro jz args wz wz' n0 n1 n2 h
 match jz with
 | 0=>exact h
 | 1=>exact h
 | 2=>exact h
 | 3=>exact h
 | 4=>exact h
 | 5=>exact h
 | 6=>exact h
 | 7=>exact h
 | 8=>exact h
 | 9=>exact h
 | 10=>exact h
 | 11=>exact h
 | 12=>exact h
 | 13=>exact h
 | 14=>exact h
 | 15=>exact h
 | 16=>exact h
 | 17=>exact h
 | 18=>exact h
 | 19=>exact h
 | 20=>exact h
 | 21=>exact h
 | 22=>exact h
 | 23=>exact h
 | 24=>exact h
 | 25=>exact h
 | 26=>exact h
 | 27=>exact h
 | 28=>exact h
 | 29=>exact h
 | 30=>exact h
 | 31=>exact absurd rfl n0
 | 32=>exact h
 | 33=>exact h
 | 34=>exact h
 | 35=>exact h
 | 36=>exact absurd rfl n1
 | 37=>exact absurd rfl n2
 | 38=>exact h
 | 39=>exact h
 | _+40=>exact trivial
def t_u (h b k ra:Nat) (lv:Int):b_p:=[isV 0 (.pointer (some ⟨b,k*13,none⟩)),isV 1 (.pointer (some ⟨h,1,none⟩)),isV 2 (.int .i64 ra),isV 3 (.int .i64 lv),isW 4 [] (.pointer (some ⟨b,k*13,none⟩)),isW 5 [4] (.pointer (some ⟨b,k*13+1,none⟩)),isW 6 [5,4] (.pointer (some ⟨b,k*13+1+ra,none⟩))]
theorem o_i (h b k ra:Nat) (lv:Int):c_j (t_u h b k ra  lv ):=a_d<|a_d<|a_d<|a_d<|a_3<|a_3<|a_3<|b_u
theorem f_7 (Q1:Nat→Prop) (g b:Nat) (Sx:Nat→Prop) (L:WoL) (X Y:Wo) (k:Nat) (i:Ins) (kd se:Int) (w:World) (H:Wk Q1 w g b L X k) (hQ:∀ c,w.heap.size≤c→Q1 c) (hN:Sx g∧Sx b) (ha:0≤i.2.1∧i.2.1≤7) (hb:0≤i.2.2.1∧i.2.2.1≤7) (hc:0≤i.2.2.2∧i.2.2.2≤7) (hwf:∀ j,j < 8→(Lit.int .i64 ((thW X k).r j)).wf=true)
  (hE:b_v X.ws X.ts X.D X.bs k kd (rgt (thW X k) i.2.2.1)=se) (hY:b_j { X with ws:=b_w X.ws X.ts kd (rgt (thW X k) i.2.2.1) (rgt (thW X k) i.2.1) (rgt (thW X k) i.2.2.2) } k (g_A (thW X k) i.2.1.toNat (b_K X.ws X.ts (rgt (thW X k) i.2.2.1)))=Y) :
  Calls Tryz.prog 123 #[.pointer (some ⟨g,0,none⟩),.agg #[.int .i64 i.1,.int .i64 i.2.1,.int .i64 i.2.2.1,.int .i64 i.2.2.2],.int .i64 kd] w (c_c g b Sx X Y k se w):=by
 obtain ⟨o,ra,rb,rc⟩:=i;simp only at ha hb hc hE hY ⊢;obtain ⟨ra,rfl⟩:∃ j:Nat,ra=j:=⟨ra.toNat,by omega⟩;obtain ⟨rb,rfl⟩:∃ j:Nat,rb=j:=⟨rb.toNat,by omega⟩;obtain ⟨rc,rfl⟩:∃ j:Nat,rc=j:=⟨rc.toNat,by omega⟩;simp only [rgt,Int.toNat_natCast] at hE hY;obtain ⟨W,hW⟩:=nm (w.alloc (Obj.cells (inC (o,(ra:Int),(rb:Int),(rc:Int))).toArray 66));have HI:=hid (show a_p W w.heap.size (inC (o,(ra:Int),(rb:Int),(rc:Int))) by rw [hW];exact a_e _ _ rfl);have HB:=N3;have HSZ:=hid (show g < w.heap.size from a_P H.x (by simp));have HH:=hid (d_u HB.out H);have HC:=hid (b_1 Q1 g b L X k W HH.out);obtain ⟨t,htt⟩:=mn (thW X k);rw [htt] at hwf hE hY;obtain ⟨va,hva⟩:=mn (t.r ra);obtain ⟨vb,hvb⟩:=mn (t.r rb);obtain ⟨vc,hvc⟩:=mn (t.r rc);rw [hvb] at hE;rw [hva,hvb,hvc] at hY;have ⟨HTT,HQ,HNN,HW⟩:=hh4 htt hQ hN hW;have HWF:=hid (hwf rb (by omega));rw [hvb] at HWF;have HVA:=hid (And.intro hva (And.intro hvb hvc));have HRA:=hid (show ra < 8 by omega);obtain ⟨D,hD⟩:=mn (X.D);have HD:=hid hD;rw [hD] at hE;have ⟨HLE,HYL⟩:=hh2 hE hY;have i3:(0:Int)≤ra:=by omega
 have i4:(ra:Int) < 8:=by omega
 have i5:(0:Int)≤rb:=by omega
 have i6:(rb:Int) < 8:=by omega
 have i7:(0:Int)≤rc:=by omega
 have i8:(rc:Int) < 8:=by omega
 clear hW H hva hvb hvc htt hQ hN hwf hD hE hY ha hb hc
 go_enter Tryz.func123,Tryz.ntmps123
 go_upto_region 1 with fail
 rw [←HW.out]
 go_wp2_with fail
 refine HC.out.mono ?_;rintro e1 V ⟨rfl,m,hm⟩;have HB1:=N15;clear HC hm;have HHV:=hid (d_u HB1.out HH.out);have HIV:=hid (a_i HB1.out HI.out);have HBV:=hid (a_b HB.out HB1.out);have HBN:=N46;have HQV:=hid (show ∀ c,V.heap.size≤c→Q1 c from fun c hc=>HQ.out c (by have:=HBV.out.size;omega));have HXD:=N142;have hse:=HLE.out;obtain ⟨sD,hsD⟩:=mn (okZ se D);obtain ⟨lv,hlv⟩:=mn (okZ se (b_K X.ws X.ts vb));obtain ⟨SW,hSW⟩:=mn (okL se (b_w X.ws X.ts kd vb va vc));obtain ⟨ST,hST⟩:=mn (okL se X.ts);obtain ⟨SB,hSB⟩:=mn (okL se X.bs);have HOK:=hid (show se=0→D=sD∧b_w X.ws X.ts kd vb va vc=SW∧X.ts=ST∧X.bs=SB∧b_K X.ws X.ts vb=lv from fun h=>by subst h;exact ⟨hsD,hSW,hST,hSB,hlv⟩)
 have HMK:=hid (show ∀ u,Below V.heap.size V u→Calls Tryz.prog 152 #[.agg #[.slice L.ws.a L.ws.n L.ws.c,.slice L.ts.a L.ts.n L.ts.c,.int .i64 D,.slice L.bs.a L.bs.n L.bs.c],.int .i64 k,.int .i64 kd,.int .i64 vb,.int .i64 va,.int .i64 vc] u (fun e w'=>∃ a n c a' n' c' q l d,e=.returned (.tuple #[.agg #[.slice a n c,.slice a' n' c',.int .i64 sD,.slice q l d],.int .i64 lv,.int .i64 se])∧SlP (fun b=>Q1 b∧(b < V.heap.size∨u.heap.size≤b)) w' a n SW∧SlP (fun b=>Q1 b∧(b < V.heap.size∨u.heap.size≤b)) w' a' n' ST∧BlP (fun b=>Q1 b∧(b < V.heap.size∨u.heap.size≤b)) w' q l SB∧Below u.heap.size u w') from fun u hu=>by
  have h:=h_H L.ws.a L.ts.a L.bs.a L.ws.n L.ws.c L.ts.n L.ts.c L.bs.n L.bs.c X.ws X.ts D X.bs k kd vb va vc u (f_k hu HHV.out.ws) (f_k hu HHV.out.ts) (a_G (a_C hu) HHV.out.bs).bl HWF.out;rw [hse,hsD,hSW,hST,hSB,hlv] at h;refine h.mono ?_;rintro e w' ⟨a,n,c,a',n',c',q,l,d,rfl,h1,h2,h3,h4⟩;have hq:∀ b,u.heap.size≤b→Q1 b∧(b < V.heap.size∨u.heap.size≤b):=fun b hb=>⟨HQV.out b (by have:=hu.size;omega),.inr hb⟩
  exact ⟨a,n,c,a',n',c',q,l,d,rfl,a_n hq h1,a_n hq h2,a_H hq h3,h4⟩)
 have HYY:=hid (show se=0→b_j { X with ws:=b_w X.ws X.ts kd vb va vc } k (g_A t ra lv)=Y from fun h=>by rw [←HYL.out,(HOK.out h).2.2.2.2]);clear hse hsD hSW hST hSB hlv;obtain ⟨x7,-⟩:=HXD.out 7 _ rfl;obtain ⟨y1,-⟩:=HIV.out 1 _ rfl;obtain ⟨y2,-⟩:=HIV.out 2 _ rfl;obtain ⟨y3,-⟩:=HIV.out 3 _ rfl;have za:=i_e HHV.out ra (by omega);have zb:=i_e HHV.out rb (by omega);have zc:=i_e HHV.out rc (by omega);rw [HTT.out] at za zb zc;rw [HVA.out.1] at za;rw [HVA.out.2.1] at zb;rw [HVA.out.2.2] at zc;have hG:=o_h Q1 w.heap.size V L D g b k ra rb rc kd va vb vc lv se sD SW ST SB
 go_upto_region 2 with fail
 refine d_k [some 13,some 14,some 15,some 16,some 17,some 18,some 19,some 20,some 21,some 22,some 23,some 24,some 25,some 26,some 27,some 28,some 29,some 30,some 31,some 32,some 33,some 34,some 35,some 36,some 37,some 38,some 39,some 40,some 41,some 42,some 43,some 44,some 12,some 45,some 46,some 47,some 7,none,some 8,some 9] (fun w'=>Below V.heap.size V w') (p_Z Q1 w.heap.size V L D g b k ra rb rc kd va vb vc lv se sD SW ST SB) 31 36 (fun x y w=>∃ a n c a' n' c' q l d g,x=.tuple #[.agg #[.slice a n c,.slice a' n' c',.int .i64 sD,.slice q l d],.int .i64 lv,.int .i64 se]∧y=.pointer (some ⟨g,0,none⟩)∧SlP (fun b=>Q1 b∧b≠g) w a n SW∧SlP (fun b=>Q1 b∧b≠g) w a' n' ST∧BlP (fun b=>Q1 b∧b≠g) w q l SB) (by kernel_rfl) (by kernel_rfl) (by decide) rfl ((Below.refl _ _).drew) ?_ ?_
 ·show StepsL _ _ _ _ _ _ _
  refine InvD.c (fun _ _ w1 C _ hK=>oR C hK (h:=by simp [execOp,go_sem,C.o 0 (.pointer (some ⟨g,0,none⟩))])) ?_;refine InvD.c (fun _ _ w1 C _ hK=>oR C hK (h:=by simp [execOp,go_sem,C.i 0])) ?_;refine InvD.c (fun _ _ w1 C _ hK=>oR C hK (h:=by simp [execOp,go_sem,C.i 1])) ?_;refine InvD.c (fun _ _ w1 C _ hK=>oR C hK (h:=by simp [execOp,go_sem,C.i 2])) ?_;refine InvD.c (fun a1 vals w1 C K hK=>?_) ?_
  ·have e0:=C.i 3;exact J47
  refine InvD.c (fun _ _ w1 C _ hK=>oR C hK (h:=by simp [execOp,go_sem,C.o 0 (.pointer (some ⟨g,0,none⟩))])) ?_;refine InvD.c (fun _ _ w1 C _ hK=>oR C hK (h:=by simp [execOp,go_sem,C.i 5])) ?_;refine InvD.c (fun _ _ w1 C _ hK=>oR C hK (h:=by simp [execOp,go_sem,C.i 6])) ?_;refine InvD.c (fun _ _ w1 C _ hK=>oR C hK (h:=by simp [execOp,go_sem,C.i 7,a_u C.base x7])) ?_;refine InvD.c (fun _ _ w1 C _ hK=>oR C hK (h:=by simp [execOp,go_sem,C.o 2 (.int .i64 kd)])) ?_;refine InvD.c (fun _ _ w1 C _ hK=>oR C hK (h:=by simp [execOp,go_sem,C.o 6 (.pointer (some ⟨b,k*13,none⟩))])) ?_;refine InvD.c (fun _ _ w1 C _ hK=>oR C hK (h:=by simp [execOp,go_sem,C.o 4 (.pointer (some ⟨w.heap.size,0,none⟩))])) ?_;refine InvD.c (fun _ _ w1 C _ hK=>oR C hK (h:=by simp [execOp,go_sem,C.i 11,a_u C.base y2])) ?_;refine InvD.c (fun _ _ w1 C _ hK=>oR C hK (h:=by simp [execOp,go_sem,C.i 10])) ?_;refine InvD.c (fun _ _ w1 C _ hK=>oR C hK (h:=by simp [execOp,go_sem,C.i 13])) ?_;refine InvD.c (fun _ _ w1 C _ hK=>oR C hK (h:=by simp [execOp,go_sem,C.i 14,C.i 12,i5,i6])) ?_;refine InvD.c (fun _ _ w1 C _ hK=>oR C hK (h:=by simp [execOp,go_sem,C.i 15,a_u C.base zb])) ?_;refine InvD.c (fun _ _ w1 C _ hK=>oR C hK (h:=by simp [execOp,go_sem,C.o 6 (.pointer (some ⟨b,k*13,none⟩))])) ?_;refine InvD.c (fun _ _ w1 C _ hK=>oR C hK (h:=by simp [execOp,go_sem,C.o 4 (.pointer (some ⟨w.heap.size,0,none⟩))])) ?_;refine InvD.c (fun _ _ w1 C _ hK=>oR C hK (h:=by simp [execOp,go_sem,C.i 18,a_u C.base y1])) ?_;refine InvD.c (fun _ _ w1 C _ hK=>oR C hK (h:=by simp [execOp,go_sem,C.i 17])) ?_
  refine InvD.c (fun _ _ w1 C _ hK=>oR C hK (h:=by simp [execOp,go_sem,C.i 20])) ?_;refine InvD.c (fun _ _ w1 C _ hK=>oR C hK (h:=by simp [execOp,go_sem,C.i 21,C.i 19,i3,i4])) ?_;refine InvD.c (fun _ _ w1 C _ hK=>oR C hK (h:=by simp [execOp,go_sem,C.i 22,a_u C.base za])) ?_;refine InvD.c (fun _ _ w1 C _ hK=>oR C hK (h:=by simp [execOp,go_sem,C.o 6 (.pointer (some ⟨b,k*13,none⟩))])) ?_;refine InvD.c (fun _ _ w1 C _ hK=>oR C hK (h:=by simp [execOp,go_sem,C.o 4 (.pointer (some ⟨w.heap.size,0,none⟩))])) ?_;refine InvD.c (fun _ _ w1 C _ hK=>oR C hK (h:=by simp [execOp,go_sem,C.i 25,a_u C.base y3])) ?_;refine InvD.c (fun _ _ w1 C _ hK=>oR C hK (h:=by simp [execOp,go_sem,C.i 24])) ?_;refine InvD.c (fun _ _ w1 C _ hK=>oR C hK (h:=by simp [execOp,go_sem,C.i 27])) ?_;refine InvD.c (fun _ _ w1 C _ hK=>oR C hK (h:=by simp [execOp,go_sem,C.i 28,C.i 26,i7,i8])) ?_;refine InvD.c (fun _ _ w1 C _ hK=>oR C hK (h:=by simp [execOp,go_sem,C.i 29,a_u C.base zc])) ?_;refine InvD.c (fun a1 vals w1 C K hK=>?_) ?_
  ·have e0:=C.i 4;have e1:=C.i 8;have e2:=C.i 9;have e3:=C.i 16;have e4:=C.i 23;have e5:=C.i 30;rw [a_M] at e0 e1 e2 e3 e4 e5;refine a_g rfl (a_O _ _ _ rfl 152 rfl [.agg #[.slice L.ws.a L.ws.n L.ws.c,.slice L.ts.a L.ts.n L.ts.c,.int .i64 D,.slice L.bs.a L.bs.n L.bs.c],.int .i64 k,.int .i64 kd,.int .i64 vb,.int .i64 va,.int .i64 vc] (by simp only [List.map_cons,List.map_nil,e0,e1,e2,e3,e4,e5]) (by kernel_rfl) ((HMK.out w1 C.base).mono ?_));exact J24
  refine InvD.c (fun a1 vals w1 C K hK=>?_) ?_
  ·have e0:=C.t 31 44 rfl rfl;obtain ⟨a,n,c,a',n',c',q,l,d,h1,-⟩:=C.says 31 rfl;refine a_g rfl (a_x (v:=vals 31) ?_ (c_Q hK C rfl ⟨a,n,c,a',n',c',q,l,d,by show [vals 31,vals 31]=_;rw [List.head_eq_of_cons_eq h1]⟩));simp [execOp,go_sem,e0]
  refine InvD.c (fun a1 vals w1 C K hK=>?_) ?_
  ·have e0:=C.t 32 12 rfl rfl;obtain ⟨a,n,c,a',n',c',q,l,d,h1⟩:=C.says 32 rfl;have h2:=N66;have h3:=N37;rw [h2] at e0;refine a_g rfl (a_x (v:=.agg #[.slice a n c,.slice a' n' c',.int .i64 sD,.slice q l d]) ?_ (c_Q hK C rfl (⟨a,n,c,a',n',c',q,l,d,by show [.agg #[.slice a n c,.slice a' n' c',.int .i64 sD,.slice q l d],vals 31]=_;rw [h3]⟩)));simp [execOp,go_sem,e0]
  refine InvD.c (fun a1 vals w1 C K hK=>?_) ?_
  ·have e0:=C.t 32 12 rfl rfl;obtain ⟨a,n,c,a',n',c',q,l,d,h1⟩:=C.says 32 rfl;have h2:=N66;have h3:=N37;rw [h2] at e0;refine a_g rfl (a_x (v:=.int .i64 lv) ?_ (c_Q hK C rfl (rfl)));simp [execOp,go_sem,e0]
  refine InvD.c (fun a1 vals w1 C K hK=>?_) ?_
  ·have e0:=C.t 32 12 rfl rfl;obtain ⟨a,n,c,a',n',c',q,l,d,h1⟩:=C.says 32 rfl;have h2:=N66;have h3:=N37;exact J82
  refine InvD.c (fun a1 vals w1 C K hK=>?_) ?_
  ·exact J14
  refine InvD.c (fun a1 vals w1 C K hK=>?_) ?_
  ·have e0:=C.v 36 7 rfl rfl;have e1:=C.v 33 45 rfl rfl;obtain ⟨g,g1,g2,xs,hx,hx2⟩:=C.says 36 rfl;obtain ⟨a,n,c,a',n',c',q,l,d,h1⟩:=C.says 33 rfl;have y0:vals 36=.pointer (some ⟨g,0,none⟩):=List.head_eq_of_cons_eq g1;have y1:vals 33=.agg #[.slice a n c,.slice a' n' c',.int .i64 sD,.slice q l d]:=List.head_eq_of_cons_eq h1;have y2:=N37;obtain ⟨a2,n2,c2,a'2,n'2,c'2,q2,l2,d2,gg,z1,z2,p0x,p1x,p2x⟩:=C.two rfl rfl rfl rfl;rw [y2] at z1;rw [y0] at z2
   cases z1
   cases z2
   rw [y0] at e0;rw [y1] at e1;refine a_g rfl (a_0 30 _ _ rfl g #[.slice a n c,.slice a' n' c',.int .i64 sD,.slice q l d] e0 e1 xs hx (by rw [hx2];rfl) (by kernel_rfl) (by simp [Value.oneCell']) ?_);intro U HU;have hUx:=N97;have hk:=N113;have q0x:=a_r (w':=U) hk p0x;have q1x:=a_r (w':=U) hk p1x;have q2x:=a_G (w':=U) hk p2x;refine hK _ U ⟨g,a,n,c,a',n',c',q,l,d,by show [vals 36,vals 31]=_;rw [y0,y2],g2,hUx,q0x,q1x,q2x⟩ (by rw [HU.out];exact a_h g2 C.base) (fun jz hj h=>?_) (fun _ _ _=>⟨a,n,c,a',n',c',q,l,d,g,y2,y0,q0x,q1x,q2x⟩) (fun e=>absurd e (by decide)) (fun e=>absurd e (by decide)) (fun e=>absurd e (by decide))
   by_cases j16:jz=31
   ·subst j16;exact ⟨a,n,c,a',n',c',q,l,d,by show [vals 31]=_;rw [y2],a_n (fun _ h=>h.1) q0x,a_n (fun _ h=>h.1) q1x,a_H (fun _ h=>h.1) q2x⟩
   ·by_cases j20:jz=36
    ·subst j20;exact ⟨g,by show [vals 36]=_;rw [y0],g2,_,hUx,rfl⟩
    ·exact q_l _ _ _ _ _ _ _ _ _ _ _ _ _ _ _ _ _ _ _ _ _ _ _ _ _ j16 j20 hj h
  refine InvD.c (fun _ _ w1 C _ hK=>oR C hK (h:=by simp [execOp,go_sem,C.i 34])) ?_;refine InvD.c (fun _ _ w1 C _ hK=>oR C hK (h:=by simp [execOp,go_sem,C.i 35])) ?_;exact StepsL.nil
 ·intro vals w1 hb hv hbo;obtain ⟨g7,a,n,c,a',n',c',q,l,d,e1,g2,hm,q5,q6,q7⟩:=c_f (k:=37) rfl (hv 37 (by decide));have y20:vals 36=.pointer (some ⟨g7,0,none⟩):=List.head_eq_of_cons_eq e1;have y22:vals 38=.int .i64 lv:=List.head_eq_of_cons_eq (hv 38 (by decide));have y23:vals 39=.int .i64 se:=List.head_eq_of_cons_eq (hv 39 (by decide));simp only [c_I,Act.put,sA,sB,sC,y20,y22,y23];have HMV:=hid hm;have HQM:=hid (And.intro q5 (And.intro q6 q7));have HHE:=hid (d_u hb HHV.out);have HBE:=hid (HBN.out.andB hb);have HIE:=hid (a_i hb HIV.out);clear hb hbo hv e1 y20 y22 y23 hm q5 q6 q7 g2 HMK x7 y1 y2 y3 za zb zc hG i5 i6 i7 i8;have HC0:=j_r ⟨a,n,c⟩ ⟨a',n',c'⟩ ⟨q,l,d⟩ sD se w1;have HC:=hid HC0;clear HC0
  go_wp2_with (refine wpList_load_mid rfl 30 _ rfl g7 0 rfl [.slice a n c,.slice a' n' c',.int .i64 sD,.slice q l d] _ (a_f HMV.out) Tryz.underlying30 rfl (by kernel_rfl) ?_)
  refine HC.out.mono ?_;clear HC;rintro e2 w2 ⟨(⟨hz,rfl⟩ | ⟨hz,rfl⟩),hb2⟩
  ·have HZS:=hid hz;have HH2:=hid (d_u hb2 HHE.out);have HB2:=hid (HBE.out.andB hb2);have HI2:=hid (a_i hb2 HIE.out);have HQ2:=hid (And.intro (a_r (a_C hb2) HQM.out.1) (And.intro (a_r (a_C hb2) HQM.out.2.1) (a_G (a_C hb2) HQM.out.2.2)));obtain ⟨hD2,hW2,hT2,hB2,hv2⟩:=HOK.out hz;clear hz hb2 HHE HBE HIE HQM HMV
   go_upto_region 4 with (refine a_L rfl 30 _ _ rfl g 1 #[.slice a n c,.slice a' n' c',.int .i64 sD,.slice q l d] rfl rfl _ HH2.out.x (by simp) (by kernel_rfl) (by simp [Value.oneCell']) ?_;intro Z HZ)
   have HZZ:=hid (show Wk Q1 Z g b (L.setTso ⟨a,n,c⟩ ⟨a',n',c'⟩ ⟨q,l,d⟩) { X with ws:=b_w X.ws X.ts kd vb va vc } k from by
    have h:=j_Y HH2.out ⟨a,n,c⟩ ⟨a',n',c'⟩ ⟨q,l,d⟩ (a_n (fun _ h=>h.1) HQ2.out.1) (a_n (fun _ h=>h.1) HQ2.out.2.1) (a_H (fun _ h=>h.1) HQ2.out.2.2);rw [←hW2,←hT2,←hB2] at h;have hd:X.D=sD:=HD.out.trans hD2;rw [HZ.out,←hd];exact h)
   have HBZ:=hid (show Bel Sx w Z by rw [HZ.out];exact e_h HNN.out.1 HB2.out);have HIZ:=hid (show a_p Z w.heap.size _ by rw [HZ.out];exact a_j (fun h=>by have:=a_P HH.out.x (by simp);have:=HSZ.out;omega) HI2.out);obtain ⟨y1,-⟩:=HIZ.out 1 _ rfl;obtain ⟨fa,fc,la,lc,-,ht⟩:=c_1 HZZ.out;rw [show thW { X with ws:=b_w X.ws X.ts kd vb va vc } k=t from HTT.out] at ht;have zt:=ht (1+ra) _ (c_H t.r ra (by have:=HRA.out;omega) _ _);rw [←Nat.add_assoc,HVA.out.1] at zt;obtain ⟨za,fz⟩:=zt;have HZS':=HZS.out;subst HZS';clear ht hD2 hW2 hT2 hB2 hv2 HZ;have hG:=o_i w.heap.size b k ra lv;refine c_G 7 [some 55,some 56,some 57,some 58,some 59,some 60,some 61] (fun w'=>Below Z.heap.size Z w') (t_u w.heap.size b k ra lv) 100 100 (fun _ _ _=>True) (by kernel_rfl) (by kernel_rfl) (by decide) rfl rfl ((Below.refl _ _).drew) ?_
   show StepsL _ _ _ _ _ _ _
   refine InvZ.c (fun _ _ w1 _ C _ hK=>oR C hK (h:=by simp [execOp,go_sem,C.o 6 (.pointer (some ⟨b,k*13,none⟩))])) ?_;refine InvZ.c (fun _ _ w1 _ C _ hK=>oR C hK (h:=by simp [execOp,go_sem,C.o 4 (.pointer (some ⟨w.heap.size,0,none⟩))])) ?_;refine InvZ.c (fun _ _ w1 _ C _ hK=>oR C hK (h:=by simp [execOp,go_sem,C.i 1,a_u C.base y1])) ?_;refine InvZ.c (fun _ _ w1 _ C _ hK=>oR C hK (h:=by simp [execOp,go_sem,C.o 8 (.int .i64 lv)])) ?_;refine InvZ.c (fun _ _ w1 _ C _ hK=>oR C hK (h:=by simp [execOp,go_sem,C.i 0])) ?_;refine InvZ.c (fun a1 vals w1 hdf C K hK=>?_) ?_
   ·have e0:=C.isw 4 59 [] (.pointer (some ⟨b,k*13,none⟩)) rfl rfl rfl rfl;refine a_g rfl (a_x (v:=.pointer (some ⟨b,k*13+1,none⟩)) ?_ (c_Q hK C rfl rfl));simp [execOp,go_sem,e0]
   refine InvZ.c (fun a1 vals w1 hdf C K hK=>?_) ?_
   ·have e0:=C.isw 5 60 [4] (.pointer (some ⟨b,k*13+1,none⟩)) rfl rfl rfl rfl;have e1:=C.i 2;refine a_g rfl (a_x (v:=.pointer (some ⟨b,k*13+1+ra,none⟩)) ?_ (c_Q hK C rfl rfl));simp [execOp,go_sem,e0,e1,i3,i4]
   refine InvZ.last (n:=7) ?_ ?_ ?_ ?_
   ·rfl
   ·kernel_rfl
   ·decide
   ·intro vals w1 aE hae hval hb hv hbo K hK;have y61:vals 6=.pointer (some ⟨b,k*13+1+ra,none⟩):=e_L rfl (hv 6 (by decide));have y58:vals 3=.int .i64 lv:=List.head_eq_of_cons_eq (hv 3 (by decide));have HHW:=d_u hb HZZ.out;have q1:=(hval 6 61 rfl rfl).trans y61;have q2:=(hval 3 58 rfl rfl).trans y58;have zz:w1.cell? ⟨b,k*13+1+ra,none⟩=some (.int .i64 va):=a_u hb za;have zf:w1.frozen? ⟨b,k*13+1+ra,none⟩=false:=by rw [hb.frozen (p:=⟨b,k*13+1+ra,none⟩) (b_P za)];exact fz
    refine a_g rfl (g_m (w':=w1.setCell ⟨b,k*13+1+ra,none⟩ (.int .i64 lv)) ?_ (hK _ _ ?_))
    ·rw [←a_M] at q1 q2;simp [execOp,go_sem,q1,q2,zz,zf]
    rw [hae.out];simp only [c_I,Act.put,sA,sB,sC,y58,y61]
    have HE:=hid (show c_c g b Sx X Y k 0 w (.returned (.tuple #[])) (w1.setCell ⟨b,k*13+1+ra,none⟩ (.int .i64 lv)) from ⟨.inl ⟨rfl,rfl,Q1,_,by
     have h:=c_z HHW (1+ra) (.int .i64 lv) (g_A t ra lv) (by omega) (fun fa fc la lc T=>by
      rw [show thW { X with ws:=b_w X.ws X.ts kd vb va vc } k=t from HTT.out] at T ⊢;exact ⟨fa,fc,la,lc,(k_3 t.r ra (by omega) lv (.int .i64 t.pc) _),⟨T.fcap,T.fs,T.lcap,T.lf⟩⟩)
     rw [←Nat.add_assoc] at h;rw [←HYY.out rfl];exact h⟩,(HBZ.out.andB hb).setCell (p:=⟨b,k*13+1+ra,none⟩) HNN.out.2 _⟩)
    clear hb hv hbo HHW y61 y58 hval hae q1 q2 zz zf
    go_wp2
    first | go_ret | go_end0
    exact HE.out
  ·go_wp2
   exact And.intro rfl ⟨.inr ⟨hz,rfl,Q1,L,d_u hb2 HHE.out⟩,HBE.out.andB hb2⟩
def l_d (bs:List (List (Int×Int))) (k:Nat):List Value:=((bs.take k).map (fun b=>Value.int .i64 b.length))++List.replicate (bs.length - k) (.int .i64 0)
theorem r_q (bs:List (List (Int×Int))) (k:Nat) (hk:k≤bs.length):(l_d bs k).length=bs.length:=by simp [l_d];omega
theorem p_B {bs:List (List (Int×Int))} {k:Nat} (hk:k < bs.length):(l_d bs k).set k (.int .i64 (bs.getD k []).length)=l_d bs (k+1):=by
 have e:bs.take (k+1)=bs.take k++[bs.getD k []]:=by
  rw [List.take_succ_eq_append_getElem hk,List.getD_eq_getElem?_getD,List.getElem?_eq_getElem hk];rfl
 have hl:((bs.take k).map (fun b=>Value.int .i64 b.length)).length=k:=by simp;omega
 rw [l_d,l_d,e,List.map_append,List.set_append_right _ _ (by omega),hl,Nat.sub_self,show bs.length - k=(bs.length - (k+1))+1 by omega,List.replicate_succ,List.set_cons_zero];simp
theorem r_p (bs:List (List (Int×Int))):l_d bs bs.length=bs.map (fun b=>Value.int .i64 b.length):=by simp [l_d]
theorem t_X {Q:Nat→Prop} {w:World} {g:Nat} {zs:List Int} (hq:Q g) (h:a_p w g (zs.map (fun z=>Value.int .i64 z))):Vs repInt Q w (some ⟨g,0,none⟩) zs.length zs:=by
 refine ⟨rfl,.inr ⟨g,0,rfl,hq,fun i y hy=>⟨[.int .i64 y],rfl,fun j v hj=>?_⟩⟩⟩
 match j,hj with
 | 0,hj =>
  have hv:v=.int .i64 y:=by simpa using hj.symm
  subst hv;have h1:=(h i (.int .i64 y) (by rw [List.getElem?_map,hy];rfl)).1;rw [show 0+i*repInt.k+0=i by show 0+i*1+0=i;omega];exact h1
def p_2 (zs:List Int) (w:World) (e:Ending) (w':World):Prop:=∃ a c,e=.returned (.slice a zs.length c)∧Cap a zs.length c∧Vs repInt (fun b=>w.heap.size≤b) w' a zs.length zs∧Below w.heap.size w w'
theorem l_e (Q:Nat→Prop) (g b:Nat) (L:WoL) (X:Wo) (k:Nat) (w:World) (H:Wk Q w g b L X k) (hn1:1≤X.bs.length) (hn:X.bs.length≤1000) :
  Calls Tryz.prog 118 #[.pointer (some ⟨g,0,none⟩)] w (p_2 (b_2 X) w):=by
 obtain ⟨n,hnn⟩:=mn (L.bs.n);have HL:=hid (show X.bs.length=n by rw [←hnn];exact H.bs.1);have hn8:n≤1000:=by have:=HL.out;omega
 obtain ⟨W,hW⟩:=nm (w.alloc (.cells (Zr n) 3));have HB:=N3
 have HR:=hid (show a_p W w.heap.size (l_d X.bs 0) by
  rw [hW,u_f,show Ir (List.replicate n 0)=(l_d X.bs 0).toArray by rw [l_d,HL.out];simp [Ir]];exact a_e _ _ rfl)
 have hmk:=j_n n hn8 w;rw [←hW] at hmk;have HH:=hid (d_u HB.out H);have ⟨HN,H0,HMK⟩:=hh3 hn8 H hmk;obtain ⟨b0,o0,q0,c0,hb0,-,-,-⟩:=f_i H.bs (i:=0) (by have:=HL.out;omega);have HBA:=hid hb0;obtain ⟨x4,-⟩:=H.x 4 _ rfl;rw [hnn,hb0] at x4;have HLN:=hid hnn;have mk:=HMK.out;clear hW hmk H hnn hn hn8 hb0 hn1
 go_enter Tryz.func118,Tryz.ntmps118
 go_upto_region 2 with fail
 have x4:=HH.out.x 4 _ rfl;obtain ⟨x4,-⟩:=x4;rw [HLN.out,HBA.out] at x4;clear mk
 go_wp2_with fail
 go_loopw [21] (fun i wr=>∃ j:Nat,j≤n∧i=.int .i64 j∧Hid (a_p wr w.heap.size (l_d X.bs j))∧Hid (Below w.heap.size W wr)) (fun i _=>n - (intOf i).toNat)
 case atStart=>exact ⟨0,by omega,rfl,HR.out,Below.refl _ _⟩
 case round =>
  obtain ⟨j,hj,rfl,hr,hb⟩:=hrel;have HBr:=hid (show Below w.heap.size w wr from HB.out.trans hb.out);have HHr:=hid (d_u HBr.out H0.out)
  by_cases hlt:j < n
  ·obtain ⟨bb,bo,q,c,hba,hbc,-,-⟩:=f_i HHr.out.bs (i:=j) (by have:=HLN.out;omega);rw [HBA.out] at hba
   cases hba
   obtain ⟨bl,hbl⟩:=mn ((X.bs.getD j []).length);rw [hbl] at hbc;have hjl:j < (l_d X.bs j).length:=by rw [r_q _ _ (by have:=HL.out;omega)];have:=HL.out;omega
   obtain ⟨z0,zf⟩:=hr.out j _ (List.getElem?_eq_getElem hjl);obtain ⟨v0,hv0⟩:=mn ((l_d X.bs j)[j]'hjl);rw [hv0] at z0;have i1:(0:Int)≤j:=by omega
   have i2:(j:Int) < n:=by omega
   have hwk:wrap64 ((j:Int)+1)=j+1:=IntWalk.wrap64_in _ (by have:=HN.out;omega)
   have HR2:=hid (show a_p (wr.setCell ⟨w.heap.size,j,none⟩ (.int .i64 bl)) w.heap.size (l_d X.bs (j+1)) by
    have h:=a_A hr.out j hjl (.int .i64 bl);rw [←hbl,p_B (by have:=HL.out;omega),hbl] at h;exact h)
   have HB2:=hid (show Below w.heap.size W (wr.setCell ⟨w.heap.size,j,none⟩ (.int .i64 bl)) from hb.out.setCell (p:=⟨w.heap.size,j,none⟩) (Nat.le_refl _) _);clear hv0 hbl
   go_wp2_with fail
   clear hbc z0 zf hjl x4 i1 i2
   go_roundw
   case rel=>exact ⟨j+1,by omega,by go_num,HR2.out,HB2.out⟩
   case measure=>clear hj;rw [hwk];show n - ((j:Int)+1).toNat < n - ((j:Int)).toNat;omega
  ·obtain rfl:j=n:=by omega
   have HV:=hid (show Vs repInt (fun b=>w.heap.size≤b) wr (some ⟨w.heap.size,0,none⟩) (b_2 X).length (b_2 X) from t_X (Nat.le_refl _) (by
    have h:=hr.out;rw [←HL.out,r_p] at h;rw [b_2,List.map_map];exact h))
   have HLW:=hid (show (b_2 X).length=j by rw [b_2,List.length_map];exact HL.out)
   go_wp2_with fail
   go_ret
   refine ⟨some ⟨w.heap.size,0,none⟩,j,?_,⟨by rw [HLW.out];exact Nat.le_refl _,by have:=HN.out;omega,fun h=>by cases h⟩,HV.out,HBr.out⟩;rw [HLW.out];rfl
end Go.Proofs.YtogdpojnbgeknaaGreatDoor
