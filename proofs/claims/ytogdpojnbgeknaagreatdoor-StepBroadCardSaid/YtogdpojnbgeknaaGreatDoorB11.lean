import Derived.Test.YtogdpojnbgeknaaGreatDoorB9
import Derived.Test.YtogdpojnbgeknaaGreatDoorB0
import Derived.Test.YtogdpojnbgeknaaGreatDoorB10
import Derived.Test.YtogdpojnbgeknaaGreatDoorB3
import Derived.Test.YtogdpojnbgeknaaGreatDoorB4
import Derived.Test.YtogdpojnbgeknaaGreatDoorB5
import Derived.StillTailTactics
import Derived.Test.YtogdpojnbgeknaaGreatDoorB8
import Derived.Test.YtogdpojnbgeknaaGreatDoorB7
import Derived.Test.YtogdpojnbgeknaaGreatDoorB1
import Derived.Laws.AppendOwnNone
set_option maxRecDepth 100000
set_option maxHeartbeats 16000000
namespace Go.Proofs.YtogdpojnbgeknaaGreatDoor
open Go.ChangeShapes Go.WideShapes Go.ChangeAt Go.RowKit
open Gen
open Lib (hid)
abbrev woC (L:WoL) (D:Int):List Value:=[.slice L.co.a L.co.n L.co.c,.slice L.ws.a L.ws.n L.ws.c,.slice L.ts.a L.ts.n L.ts.c,.int .i64 D,.slice L.bs.a L.bs.n L.bs.c,.slice L.th.a L.th.n L.th.c,.slice L.ev.a L.ev.n L.ev.c]
theorem b_p (L:WoL) (D:Int):(woC L D).toArray.all (·.oneCell')=true:=by simp [Value.oneCell']
theorem a_E {w:World} {g:Nat} {cs:List Value} (X:a_p w g cs) (ty:TypeId) {d:TypeDesc} (hu:Tryz.prog.underlying ty=some d) (hd:d.isRow=true) (hi:(Tryz.prog.info? ty).map (·.size)=some cs.length) :
  (loadVar ty ⟨g,0,none⟩).run Tryz.prog w=.ok (.agg cs.toArray) w:=run_loadVar_mid w g 0 ty cs d (a_f X) hu hd hi
abbrev woZ:List Value:=[.slice none 0 0,.slice none 0 0,.slice none 0 0,.int .i64 0,.slice none 0 0,.slice none 0 0,.slice none 0 0]
def b_D (Q:Nat→Prop) (X:Wo) (w:World) (e:Ending) (w':World):Prop:=∃ L,e=.returned (woV L X.D)∧RWo Q w' L X∧Below w.heap.size w w'
theorem a_Z {Q:Nat→Prop} {X:Wo} {w w':World} {L:WoL} {v:Value} (hv:v=woV L X.D) (h:RWo Q w' L X) (hb:Below w.heap.size w w'):b_D Q X w (.returned v) w':=by subst hv;exact ⟨L,rfl,h,hb⟩
theorem o_A (L:WoL) (D:Int) (k:Int) (w:World):Calls Tryz.prog 21 #[woV L D,.int .i64 k] w (b_h (decide (0≤k∧k < L.th.n)) w):=by
 unfold woV
 by_cases h1:0≤k
 ·by_cases h2:k < L.th.n
  ·have HE:=hid (show decide (0≤k∧k < (L.th.n:Int))=true from decide_eq_true ⟨h1,h2⟩)
   go_enter Tryz.func21,Tryz.ntmps21
   go_wp2
   go_ret
   exact a_k HE.out (by go_grown)
  ·have HE:=hid (show decide (0≤k∧k < (L.th.n:Int))=false from decide_eq_false (fun h=>h2 h.2));exact J101
 ·have HE:=hid (show decide (0≤k∧k < (L.th.n:Int))=false from decide_eq_false (fun h=>h1 h.1));exact J101
def WoL.setTh (L:WoL) (a:Option Addr) (n d:Nat):WoL:={ L with th:=⟨a,n,d⟩ }
theorem j_5 {Q:Nat→Prop} {w:World} {L:WoL} {X:Wo} (R:RWo Q w L X) {a:Option Addr} {n d:Nat} {ts:List Thr} (hc:Cap a n d) (V:Vs repTh Q w a n ts):RWo Q w (L.setTh a n d) { X with th:=ts }:=
 ⟨R.co,R.ws,R.ts,R.bs,V,R.ev,R.cco,hc,R.cev⟩
theorem c_U (Q:Nat→Prop) (L:WoL) (X:Wo) (j:Nat) (t:Thr) (fa:Option Addr) (fc:Nat) (qa:Option Addr) (qc:Nat) (w:World) (R:RWo Q w L X) (T:ThQ Q w fa t.fs.length fc qa t.lf.length qc t) (hQ:∀ b,w.heap.size≤b→Q b) (hn:L.th.n≤1000) :
  Calls Tryz.prog 53 #[woV L X.D,.int .i64 j,thV t fa t.fs.length fc qa t.lf.length qc] w (b_D Q (b_k X j t) w):=by
 obtain ⟨D,hD⟩:=mn (X.D);have HD:=hid hD;rw [hD];obtain ⟨tn,htn⟩:=mn (t.fs.length);obtain ⟨tm,htm⟩:=mn (t.lf.length);have HTN:=hid (And.intro htn htm);have ⟨HR,HT,HQ⟩:=hh3 R T hQ;rw [htn,htm];obtain ⟨W,hW⟩:=nm (((w.alloc (Obj.cells (woC L D).toArray 33)).alloc (Obj.cells (thC t fa tn fc qa tm qc).toArray 46)).alloc (Obj.cells woZ.toArray 33));have HX:=N71;have HY:=hid (show a_p W (w.heap.size+1) (thC t fa tn fc qa tm qc) by rw [hW];exact a_s _ (a_e _ _ (by simp)));have HZ:=N84;have HB:=N3;have HSZ:=N124;have HW:=hid hW;obtain ⟨Q1,hQ1⟩:∃ Q1:Nat→Prop,Q1=fun b=>Q b∧(b < w.heap.size∨w.heap.size+3≤b):=⟨_,rfl⟩
 have HQ1:=hid hQ1;have R1:RWo Q1 w L X:=by rw [hQ1];exact a_D (fun b h=>⟨h.1,.inl h.2⟩) (c_h R)
 have T1:ThQ Q1 w fa t.fs.length fc qa t.lf.length qc t:=by rw [hQ1];exact b_t (fun b h=>⟨h.1,.inl h.2⟩) (d_w T)
 have HR1:=hid R1;have h0:=r_O Q1 L.th.a L.th.n L.th.c X.th j t fa fc qa qc W (g_u HB.out R1.th) (a_v (a_C HB.out) T1) (fun b hb=>by rw [hQ1];have:=HSZ.out;exact ⟨hQ b (by omega),.inr (by omega)⟩) hn;rw [htn,htm] at h0;have HC:=hid h0;clear hD htn htm R T hQ hW h0 hQ1 R1 T1 HR HT;unfold woV thV
 go_enter Tryz.func53,Tryz.ntmps53
 go_upto_region 1 with fail
 rw [←HW.out];obtain ⟨k5,f5⟩:=HX.out 5 _ rfl
 go_wp2_with (refine wpList_load_mid rfl 46 _ rfl (w.heap.size+1) 0 rfl (thC t fa tn fc qa tm qc) _ (a_f HY.out) Tryz.underlying46 rfl (by kernel_rfl) ?_)
 refine HC.out.mono ?_;rintro e w1 ⟨a,d,rfl,hc,V,hb1⟩;have X1:=a_h hb1 HX.out;obtain ⟨V5,hV5⟩:=nm (w1.setCell ⟨w.heap.size,5,none⟩ (.slice a L.th.n d))
 have HX5:=hid (show a_p V5 w.heap.size (woC (L.setTh a L.th.n d) D) by
  have:=a_y X1 5 (by simp) (.slice a L.th.n d);rw [←hV5] at this;exact this)
 have HZ5:=hid (show a_p V5 (w.heap.size+2) woZ by rw [hV5];exact a_l (a_h hb1 HZ.out) (by omega) _);have HB5:=hid (show Below w.heap.size w V5 by rw [hV5];exact (a_a HB.out hb1).setCell (p:=⟨w.heap.size,5,none⟩) (Nat.le_refl _) _)
 have HR5:=hid (show RWo Q1 V5 (L.setTh a L.th.n d) (b_k X j t) by
  have hk:Kept Q1 w1 V5:=by rw [hV5];exact a_U w1 _ _ (fun b hb=>by rw [HQ1.out] at hb;show b≠w.heap.size;have:=hb.2;omega)
  have hk0:Kept Q1 w V5:=a_3 (a_C (a_a HB.out hb1)) hk;exact j_5 (X:=X) (a_z hk0 HR1.out) hc (a_B hk V))
 have HV5:=hid hV5;obtain ⟨c5,g5⟩:=X1 5 _ rfl;clear X1 hV5 hc V hb1 HC k5 f5
 go_upto_region 2 with fail
 rw [←HV5.out];clear c5 g5
 go_wp2_with (first | (refine wpList_load_mid rfl 33 _ rfl w.heap.size 0 rfl (woC (L.setTh a L.th.n d) D) _ (a_f HX5.out) Tryz.underlying33 rfl (by kernel_rfl) ?_) | (refine a_c rfl 33 _ _ rfl (w.heap.size+2) (woC (L.setTh a L.th.n d) D).toArray rfl rfl _ HZ5.out rfl (by kernel_rfl) (b_p _ _) ?_;intro U HU))
 have HZ6:=hid (show a_p U (w.heap.size+2) (woC (L.setTh a L.th.n d) D) by rw [HU.out];exact a_q HZ5.out rfl);refine a_X ⟨w.heap.size+2,0,none⟩ rfl rfl rfl (a_E HZ6.out 33 Tryz.underlying33 rfl (by kernel_rfl)) ?_;have hkU:Kept Q1 V5 U:=by rw [HU.out];exact a_u (fun b hb=>by rw [HQ1.out] at hb;have:=hb.2;omega)
 exact a_Z (L:=L.setTh a L.th.n d) (by rw [show (b_k X j t).D=X.D from rfl,HD.out]) (a_D (fun b hb=>by rw [HQ1.out] at hb;exact hb.1) (a_z hkU HR5.out)) (by rw [HU.out];exact a_g (by omega) HB5.out)
theorem b_4 (Q:Nat→Prop) (g b:Nat) (L:WoL) (X:Wo) (k:Nat) (w:World) (H:Wk Q w g b L X k) :
  Calls Tryz.prog 78 #[.pointer (some ⟨g,0,none⟩)] w (fun e w'=>e=.returned (.pointer (some ⟨b,k*13,none⟩))∧∃ m,w'=w.drewN m):=by
 exact J65
theorem o_F {Q:Nat→Prop} {w:World} {b o:Nat} {i:Ins} (h:At repIns Q w b o i):w.cell? ⟨b,o,none⟩=some (.int .i64 i.1)∧w.cell? ⟨b,o+1,none⟩=some (.int .i64 i.2.1)∧w.cell? ⟨b,o+2,none⟩=some (.int .i64 i.2.2.1)∧w.cell? ⟨b,o+3,none⟩=some (.int .i64 i.2.2.2):=by
 obtain ⟨cs,h1,h2⟩:=h;have h1:cs=[.int .i64 i.1,.int .i64 i.2.1,.int .i64 i.2.2.1,.int .i64 i.2.2.2]:=h1;subst h1;exact ⟨h2 0 _ rfl,h2 1 _ rfl,h2 2 _ rfl,h2 3 _ rfl⟩
def l_E (i:Ins) (b:Bool) (w:World) (e:Ending) (w':World):Prop:=e=.returned (.tuple #[.agg #[.int .i64 i.1,.int .i64 i.2.1,.int .i64 i.2.2.1,.int .i64 i.2.2.2],.bool b])∧Below w.heap.size w w'
abbrev inC (i:Ins):List Value:=[.int .i64 i.1,.int .i64 i.2.1,.int .i64 i.2.2.1,.int .i64 i.2.2.2]
theorem q_9 (Q:Nat→Prop) (g b:Nat) (L:WoL) (X:Wo) (k:Nat) (w:World) (H:Wk Q w g b L X k) (hp0:0≤(thW X k).pc) :
  Calls Tryz.prog 79 #[.pointer (some ⟨g,0,none⟩)] w (l_E (inW X (thW X k).pc) (decide ((thW X k).pc < X.code.length)) w):=by
 obtain ⟨W,hW⟩:=nm (w.alloc (Obj.cells (inC (0,0,0,0)).toArray 66));have HR:=N239;have HB:=N3;have HH:=hid (d_y HB.out H);have HC:=N58;obtain ⟨fa,fc,la,lc,-,ht⟩:=c_4 HH.out;obtain ⟨t0,-⟩:=ht 0 _ rfl;obtain ⟨x0,-⟩:=HH.out.x 0 _ rfl;have HW:=hid hW;obtain ⟨pc,hpc⟩:=mn ((thW X k).pc);rw [hpc] at t0 hp0;rw [hpc];have HL:=hid (show X.code.length=L.co.n from H.co.1);obtain ⟨i,hi⟩:=mn (inW X pc);rw [hi];have HI:=hid hi;obtain ⟨d,hd⟩:=mn (decide (pc < X.code.length));rw [hd];have HDD:=hid hd;clear hW H hpc ht hi hd
 go_enter Tryz.func79,Tryz.ntmps79
 go_upto_region 1 with fail
 rw [←HW.out]
 go_wp2_with fail
 refine HC.out.mono ?_;rintro e1 w1 ⟨rfl,m,rfl⟩;clear HC;have t1:W.cell? ⟨b,k*13,none⟩=some (.int .i64 pc):=t0;exact J15
def r_X (l:List Int):Bool:=l.all (fun n=>decide (n=0))
theorem r_a (v:Int) (w:World):Calls Tryz.prog 81 #[.int .i64 v] w (g_Z (v != 0) w):=by
 go_enter Tryz.func81,Tryz.ntmps81
 go_wp2
 go_ret
 exact ⟨rfl,rfl⟩
def t_F (l:List Int) (w:World) (e:Ending) (w':World):Prop:=∃ z,e=.returned (.int .i64 z)∧decide (0≤z)=!r_X l∧Below w.heap.size w w'
def ZTo (l:List Int) (k:Nat):Prop:=∀ i v,i < k→l[i]?=some v→v=0
theorem r_R {l:List Int} {k:Nat} {v:Int} (h:ZTo l k) (hv:l[k]?=some v) (h0:v=0):ZTo l (k+1):=fun i x hi hx=>by
 by_cases e:i=k
 ·subst e;rw [hv] at hx;cases hx;exact h0
 ·exact h i x (by omega) hx
theorem t_z {l:List Int} {n:Nat} (hn:l.length=n) (h:ZTo l n):r_X l=true:=by
 rw [r_X,List.all_eq_true];intro v hv;obtain ⟨i,hi,rfl⟩:=List.mem_iff_getElem.1 hv;exact decide_eq_true (h i _ (by omega) (List.getElem?_eq_getElem hi))
theorem zNo {l:List Int} {k:Nat} {v:Int} (hv:l[k]?=some v) (h0:v≠0):r_X l=false:=by
 rw [r_X,List.all_eq_false];exact ⟨v,List.mem_of_getElem? hv,by simpa using h0⟩
theorem m_S (a:Option Addr) (n c:Nat) (l:List Int) (w:World) (S:Vs repInt Any w a n l) (hn:n≤1000) :
  Calls Tryz.prog 111 #[.slice a n c,.func (.func 81) #[] #[]] w (t_F l w):=by
 go_enter Tryz.func111,Tryz.ntmps111
 go_wp2
 go_loopw [5,8] (fun _ i wr=>∃ k:Nat,k≤n∧i=.int .i64 k∧Hid (ZTo l k)∧wr=w) (fun _ i _=>n - (intOf i).toNat)
 case atStart=>exact ⟨0,by omega,rfl,fun i v hi=>by omega,rfl⟩
 case round =>
  obtain ⟨k,hk,rfl,hz,rfl⟩:=hrel
  by_cases hlt:k < n
  ·obtain ⟨b,o,v,rfl,hv,hc⟩:=j_F S hlt;have i1:(0:Int)≤k:=by omega
   have i2:(k:Int) < n:=by omega
   have hwk:=N174;have HC:=hid (r_a v wr)
   by_cases h0:v=0
   ·have HZ:=hid (r_R hz.out hv h0);subst h0;clear hv
    go_wp2_with fail
    refine HC.out.mono ?_;rintro e1 w1 ⟨rfl,rfl⟩;clear HC
    go_wp2_with fail
    go_roundw
    case rel=>exact ⟨k+1,by omega,by go_num,HZ.out,trivial⟩
    case measure=>simp [intOf];omega
   ·have HZ:=hid (zNo hv h0);have hb:(v != 0)=true:=by simpa using h0
    rw [hb] at HC;clear hv hb h0
    go_wp2_with fail
    refine HC.out.mono ?_;rintro e1 w1 ⟨rfl,rfl⟩;clear HC
    go_wp2_with fail
    go_ret
    exact ⟨k,rfl,by rw [HZ.out];simp,Below.refl _ _⟩
  ·obtain rfl:k=n:=by omega
   have HZ:=hid (t_z S.1 hz.out)
   go_wp2_with fail
   go_ret
   exact ⟨-1,rfl,by rw [HZ.out];rfl,Below.refl _ _⟩
theorem q_k (a:Option Addr) (n c:Nat) (l:List Int) (w:World) (S:Vs repInt Any w a n l) (hn:n≤1000) :
  Calls Tryz.prog 80 #[.slice a n c,.func (.func 81) #[] #[]] w (b_h (!r_X l) w):=by
 have HC:=hid (m_S a n c l w S hn);clear S
 go_enter Tryz.func80,Tryz.ntmps80
 go_wp2_with fail
 refine HC.out.mono ?_;rintro e1 w1 ⟨z,rfl,hz,hb⟩;have ⟨HZ,HB⟩:=hh2 hz hb;clear HC hz hb
 go_wp2_with fail
 go_ret
 exact a_k HZ.out.symm HB.out
def j_p (X:Wo) (t:Thr) (i:Ins):Bool:=decide (a_I X.ws X.ts (rgt t i.2.2.1)≠0)||decide (b_L X.ws X.ts (rgt t i.2.2.1)≠rgt t i.2.1)
theorem s_k {w:World} {g:Nat} {L:WoL} {D k:Int} (h:a_p w g (wkC L D k)):w.rangeAt g 1 [.slice L.ws.a L.ws.n L.ws.c,.slice L.ts.a L.ts.n L.ts.c]:=fun j v hj=>by
 match j,hj with
 | 0,hj=>exact (h 1 v hj).1
 | 1,hj=>exact (h 2 v hj).1
theorem p_W {w:World} {g:Nat} {L:WoL} {D k:Int} (h:a_p w g (wkC L D k)):w.rangeAt g 1 [.slice L.ws.a L.ws.n L.ws.c,.slice L.ts.a L.ts.n L.ts.c,.int .i64 D,.slice L.bs.a L.bs.n L.bs.c]:=fun j v hj=>by
 match j,hj with
 | 0,hj=>exact (h 1 v hj).1
 | 1,hj=>exact (h 2 v hj).1
 | 2,hj=>exact (h 3 v hj).1
 | 3,hj=>exact (h 4 v hj).1
theorem f_s {Q:Nat→Prop} {w u:World} {a:Option Addr} {n:Nat} {zs:List Int} (hu:Below w.heap.size w u) (h:SlP Q w a n zs):Sl u a n zs:=(a_r (a_C hu) h).sl
def t_L (h g:Nat) (L:WoL) (jb:Nat) (vb lv le:Int):b_v:=[isV 0 (.pointer (some ⟨g,0,none⟩)),isV 1 (.pointer (some ⟨g,0,none⟩)),isV 2 (.pointer (some ⟨g,0,none⟩)),isV 3 (.pointer (some ⟨g,1,none⟩)),isV 4 (.pointer (some ⟨g,1,none⟩)),isV 5 (.agg #[.slice L.ws.a L.ws.n L.ws.c,.slice L.ts.a L.ts.n L.ts.c]),isV 6 (.pointer (some ⟨h,2,none⟩)),isV 7 (.int .i64 jb),isV 8 (.pointer (some ⟨h+1,jb,none⟩)),isV 9 (.int .i64 vb),isV 10 (.tuple #[.int .i64 lv,.int .i64 le]),isV 11 (.tuple #[.int .i64 lv,.int .i64 le]),isV 12 (.int .i64 lv),isV 13 (.int .i64 le),isV 14 (.int .i64 lv),isV 15 (.int .i64 le)]
theorem o_o (h g:Nat) (L:WoL) (jb:Nat) (vb lv le:Int):c_q (t_L h g  L  jb  vb lv le ):=a_d<|a_d<|a_d<|a_d<|a_d<|a_d<|a_d<|a_d<|a_d<|a_d<|a_d<|a_d<|a_d<|a_d<|a_d<|a_d<|b_B
end Go.Proofs.YtogdpojnbgeknaaGreatDoor
namespace Go.Proofs.YtogdpojnbgeknaaGreatDoor
open Go.ChangeShapes Go.WideShapes Go.ChangeAt Go.RowKit
open Gen
theorem q_Q {X:Wo} {pc:Int} (h0:0≤pc) (h1:pc < X.code.length):inW X pc∈X.code:=by
 exact J108
end Go.Proofs.YtogdpojnbgeknaaGreatDoor
namespace Go.Proofs.YtogdpojnbgeknaaGreatDoor
open Go.ChangeShapes Go.WideShapes Go.ChangeAt Go.RowKit
open Gen
open Lib (hid)
structure Wr (w:World) (g b o0:Nat) (L:WoL) (X:Wo) (k:Nat):Prop where
 x:a_p w g (wkC L X.D k)
 hb:L.th.a=some ⟨b,o0,none⟩
 th:Vs repTh Any w L.th.a L.th.n X.th
 co:Vs repIns Any w L.co.a L.co.n X.code
 ws:SlP Any w L.ws.a L.ws.n X.ws
 ts:SlP Any w L.ts.a L.ts.n X.ts
 bs:BlP Any w L.bs.a L.bs.n X.bs
 hk:k < X.th.length
 hn:X.th.length=L.th.n
theorem t_y {w w':World} {g b o0:Nat} {L:WoL} {X:Wo} {k:Nat} (hB:Below w.heap.size w w') (H:Wr w g b o0 L X k):Wr w' g b o0 L X k:=by
 have hK:=a_C (Q:=Any) hB;exact ⟨a_h hB H.x,H.hb,a_B hK H.th,a_B hK H.co,a_r hK H.ws,a_r hK H.ts,a_G hK H.bs,H.hk,H.hn⟩
theorem p_Z {w:World} {g b o0:Nat} {L:WoL} {X:Wo} {k:Nat} (H:Wr w g b o0 L X k):∃ fa fc la lc,ThQ Any w fa (thW X k).fs.length fc la (thW X k).lf.length lc (thW X k) ∧
  ∀ j v,(thC (thW X k) fa (thW X k).fs.length fc la (thW X k).lf.length lc)[j]?=some v→w.cell? ⟨b,o0+k*13+j,none⟩=some v∧True:=by
 obtain ⟨b1,o1,t,fa,fc,la,lc,e,ht,-,T,h⟩:=c_3 H.th (k:=k) (by have:=H.hk;have:=H.hn;omega);rw [H.hb] at e
 cases e
 rw [k_a H.hk] at ht
 cases ht
 exact ⟨fa,fc,la,lc,T,fun j v hj=>⟨h j v hj,trivial⟩⟩
theorem h_y (g b o0:Nat) (L:WoL) (X:Wo) (k:Nat) (w:World) (H:Wr w g b o0 L X k) :
  Calls Tryz.prog 78 #[.pointer (some ⟨g,0,none⟩)] w (fun e w'=>e=.returned (.pointer (some ⟨b,o0+k*13,none⟩))∧∃ m,w'=w.drewN m):=by
 exact J65
theorem o_3 (g b o0:Nat) (L:WoL) (X:Wo) (k:Nat) (w:World) (H:Wr w g b o0 L X k) (hp0:0≤(thW X k).pc) :
  Calls Tryz.prog 79 #[.pointer (some ⟨g,0,none⟩)] w (l_E (inW X (thW X k).pc) (decide ((thW X k).pc < X.code.length)) w):=by
 obtain ⟨W,hW⟩:=nm (w.alloc (Obj.cells (inC (0,0,0,0)).toArray 66));have HR:=N239;have HB:=N3;have HH:=hid (t_y HB.out H);have HC:=hid (h_y g b o0 L X k W HH.out);obtain ⟨fa,fc,la,lc,-,ht⟩:=p_Z HH.out;obtain ⟨t0,-⟩:=ht 0 _ rfl;obtain ⟨x0,-⟩:=HH.out.x 0 _ rfl;have HW:=hid hW;obtain ⟨pc,hpc⟩:=mn ((thW X k).pc);rw [hpc] at t0 hp0;rw [hpc];have HL:=hid (show X.code.length=L.co.n from H.co.1);obtain ⟨i,hi⟩:=mn (inW X pc);rw [hi];have HI:=hid hi;obtain ⟨d,hd⟩:=mn (decide (pc < X.code.length));rw [hd];have HDD:=hid hd;clear hW H hpc ht hi hd
 go_enter Tryz.func79,Tryz.ntmps79
 go_upto_region 1 with fail
 rw [←HW.out]
 go_wp2_with fail
 refine HC.out.mono ?_;rintro e1 w1 ⟨rfl,m,rfl⟩;clear HC;have t1:W.cell? ⟨b,o0+k*13,none⟩=some (.int .i64 pc):=t0;exact J15
theorem k_x (g b o0:Nat) (L:WoL) (X:Wo) (k:Nat) (i:Ins) (w:World) (H:Wr w g b o0 L X k) (ha:0≤i.2.1∧i.2.1≤7) (hb:0≤i.2.2.1∧i.2.2.1≤7) (hw:(Lit.int .i64 (rgt (thW X k) i.2.2.1)).wf=true) :
  Calls Tryz.prog 82 #[.pointer (some ⟨g,0,none⟩),.agg #[.int .i64 i.1,.int .i64 i.2.1,.int .i64 i.2.2.1,.int .i64 i.2.2.2]] w (b_h (j_p X (thW X k) i) w):=by
 obtain ⟨o,ra,rb,c⟩:=i;simp only at ha hb hw ⊢;obtain ⟨ja,rfl⟩:∃ j:Nat,ra=j:=⟨ra.toNat,by omega⟩;obtain ⟨jb,rfl⟩:∃ j:Nat,rb=j:=⟨rb.toNat,by omega⟩;obtain ⟨y,hy⟩:=mn (j_p X (thW X k) (o,(ja:Int),(jb:Int),c));rw [hy];simp only [j_p,rgt,Int.toNat_natCast] at hy hw;obtain ⟨W,hW⟩:=nm (w.alloc (Obj.cells (inC (o,(ja:Int),(jb:Int),c)).toArray 66));have HI:=hid (show a_p W w.heap.size (inC (o,(ja:Int),(jb:Int),c)) by rw [hW];exact a_e _ _ rfl);have HB:=N3;have HSZ:=N149;have HH:=hid (t_y HB.out H);have HC:=hid (h_y g b o0 L X k W HH.out);obtain ⟨fa,fc,la,lc,-,ht⟩:=p_Z HH.out;obtain ⟨t,htt⟩:=mn (thW X k);rw [htt] at ht hy hw;obtain ⟨va,hva⟩:=mn (t.r ja);obtain ⟨vb,hvb⟩:=mn (t.r jb)
 have HT:=hid (show W.rangeAt b (o0+k*13+1) (rgC t.r) from fun j v hj=>by
  have h1:=N147;rw [Nat.add_assoc];refine (ht (1+j) v ?_).1;rw [←hj]
  rcases (show j=0∨j=1∨j=2∨j=3∨j=4∨j=5∨j=6∨j=7 by omega) with rfl | rfl | rfl | rfl | rfl | rfl | rfl | rfl <;> rfl)
 have ⟨HW,HY,HWF,HVA,HVB⟩:=hh5 hW hy hw hva hvb;clear hW H ht hy hw hva hvb
 go_enter Tryz.func82,Tryz.ntmps82
 go_upto_region 1 with fail
 rw [←HW.out]
 go_wp2_with fail
 refine HC.out.mono ?_;rintro e1 w1 ⟨rfl,m,hm⟩;have HB1:=N215;have HZ1:=hid (show w1.heap.size=w.heap.size+1 by rw [hm,←HSZ.out];rfl);have HT1:=hid (show w1.rangeAt b (o0+k*13+1) (rgC t.r) from fun j v hj=>a_t HB1.out (HT.out j v hj));clear HC hm HT
 go_upto_region 2 with (first | (refine wpList_load_mid rfl 43 _ rfl b (o0+k*13+1) rfl (rgC t.r) _ HT1.out Tryz.underlying43 rfl (by kernel_rfl) ?_) | (refine a_c rfl 43 _ _ rfl w1.heap.size (rgC t.r).toArray rfl rfl _ (a_e rgZ w1.heap.size rfl) rfl (by kernel_rfl) (by simp [Value.oneCell']) ?_;intro V HV))
 have HR2:=N205;have HB2:=N115;have HI2:=hid (a_h HB2.out HI.out);have HH2:=hid (t_y HB2.out HH.out);rw [HZ1.out] at HR2 ⊢;have HL:=hid (fun (u:World) (hu:Below V.heap.size V u)=>g_M L.ws.a L.ts.a L.ws.n L.ws.c L.ts.n L.ts.c X.ws X.ts vb u (f_s hu HH2.out.ws) (f_s hu HH2.out.ts) (by rw [←HVB.out];exact HWF.out));obtain ⟨lv,hlv⟩:=mn (b_L X.ws X.ts vb);obtain ⟨le,hle⟩:=mn (a_I X.ws X.ts vb);rw [hlv,hle] at HL;have HYV:=hid (show (decide (le≠0)||decide (lv≠va))=y by rw [←HY.out];subst hlv hle;have ha:=HVA.out;have hb:=HVB.out;subst ha hb;rfl);obtain ⟨x1,-⟩:=HH2.out.x 1 _ rfl;obtain ⟨x2,-⟩:=HH2.out.x 2 _ rfl;obtain ⟨q2,-⟩:=HI2.out 2 _ rfl;obtain ⟨q1,-⟩:=HI2.out 1 _ rfl;have i1:(0:Int)≤jb:=by omega
 have i2:(jb:Int) < 8:=by omega
 have i3:(0:Int)≤ja:=by omega
 have i4:(ja:Int) < 8:=by omega
 obtain ⟨r1,-⟩:=HR2.out jb _ (b_M t.r jb (by omega) _);obtain ⟨r2,-⟩:=HR2.out ja _ (b_M t.r ja (by omega) _);rw [HVA.out] at r2;rw [HVB.out] at r1;clear hlv hle HV HR2;have hG:=o_o w.heap.size g L jb vb lv le
 go_upto_region 2 with fail
 refine d_K [some 14,some 15,some 16,some 17,some 18,some 19,some 20,some 21,some 22,some 23,some 24,some 13,some 25,some 26,some 6,some 7] (fun w'=>Below V.heap.size V w') (t_L w.heap.size g L jb vb lv le) 100 100 (fun _ _ _=>True) (by kernel_rfl) (by kernel_rfl) (by decide) rfl ((Below.refl _ _).drew) ?_ ?_
 ·show StepsL _ _ _ _ _ _ _
  refine InvD.c (fun _ _ w1 C _ hK=>oR C hK (h:=by simp [execOp,go_sem,C.o 0 (.pointer (some ⟨g,0,none⟩))])) ?_;refine InvD.c (fun _ _ w1 C _ hK=>oR C hK (h:=by simp [execOp,go_sem,C.i 0])) ?_;refine InvD.c (fun _ _ w1 C _ hK=>oR C hK (h:=by simp [execOp,go_sem,C.i 1])) ?_;refine InvD.c (fun _ _ w1 C _ hK=>oR C hK (h:=by simp [execOp,go_sem,C.i 2])) ?_;refine InvD.c (fun _ _ w1 C _ hK=>oR C hK (h:=by simp [execOp,go_sem,C.i 3])) ?_;refine InvD.c (fun a1 vals w1 C K hK=>?_) ?_
  ·have e0:=C.i 4;exact J79
  refine InvD.c (fun _ _ w1 C _ hK=>oR C hK (h:=by simp [execOp,go_sem,C.o 3 (.pointer (some ⟨w.heap.size,0,none⟩))])) ?_;refine InvD.c (fun _ _ w1 C _ hK=>oR C hK (h:=by simp [execOp,go_sem,C.i 6,a_t C.base q2])) ?_;refine InvD.c (fun _ _ w1 C _ hK=>oR C hK (h:=by simp [execOp,go_sem,C.o 5 (.pointer (some ⟨w.heap.size+1,0,none⟩)),C.i 7,i1,i2])) ?_;refine InvD.c (fun _ _ w1 C _ hK=>oR C hK (h:=by simp [execOp,go_sem,C.i 8,a_t C.base r1])) ?_;refine InvD.c (fun a1 vals w1 C K hK=>?_) ?_
  ·have e0:=C.i 5;have e1:=C.i 9;rw [a_P] at e0 e1;refine a_i rfl (a_Q _ _ _ rfl 112 rfl [.agg #[.slice L.ws.a L.ws.n L.ws.c,.slice L.ts.a L.ts.n L.ts.c],.int .i64 vb] (by simp only [List.map_cons,List.map_nil,e0,e1]) (by kernel_rfl) ((HL.out w1 C.base).mono ?_));exact J81
  refine InvD.c (fun _ _ w1 C _ hK=>oR C hK (h:=by simp [execOp,go_sem,C.i 10])) ?_;refine InvD.c (fun _ _ w1 C _ hK=>oR C hK (h:=by simp [execOp,go_sem,C.i 11])) ?_;refine InvD.c (fun _ _ w1 C _ hK=>oR C hK (h:=by simp [execOp,go_sem,C.i 11])) ?_;refine InvD.c (fun _ _ w1 C _ hK=>oR C hK (h:=by simp [execOp,go_sem,C.i 12])) ?_;refine InvD.c (fun _ _ w1 C _ hK=>oR C hK (h:=by simp [execOp,go_sem,C.i 13])) ?_;exact StepsL.nil
 ·intro vals w1 hb hv hbo;have y10:vals 14=.int .i64 lv:=List.head_eq_of_cons_eq (hv 14 (by decide));have y11:vals 15=.int .i64 le:=List.head_eq_of_cons_eq (hv 15 (by decide));simp only [c_N,Act.put,sA,sB,sC,y10,y11];have q1':=a_t hb q1;have r2':=a_t hb r2;have HB3:=hid (show Below w.heap.size w w1 from a_a HB.out (a_a HB2.out hb));clear hb hv hbo y10 y11 HL x1 x2 q1 q2 r1 r2 hG
  by_cases e0:le=0
  ·subst e0;have HYW:=hid (show (lv != va)=y by rw [←HYV.out];by_cases e:lv=va <;> simp [e])
   go_wp2_with fail
   go_ret
   exact a_k HYW.out.symm HB3.out
  ·have hk0:(le != 0)=true:=by simpa using e0
   go_wp2_with fail
   go_ret
   exact a_k (s:=true) (by rw [←HYV.out];simp [e0]) HB3.out
theorem l_R (g b o0:Nat) (L:WoL) (X:Wo) (k:Nat) (w:World) (H:Wr w g b o0 L X k) (hrw:a_6 X=true) (hwf:∀ j,j < 8→(Lit.int .i64 ((thW X k).r j)).wf=true) :
  Calls Tryz.prog 39 #[.pointer (some ⟨g,0,none⟩)] w (b_h (g_8 X k) w):=by
 obtain ⟨y,hy⟩:=mn (g_8 X k);rw [hy];obtain ⟨hrc,hrm,hrl,hro⟩:=a_M hrw
 have HCI:=hid (show ∀ i∈X.code,c_K i X.code.length=true by
  simp only [b_U,Bool.and_eq_true,decide_eq_true_eq,List.all_eq_true] at hrc;exact hrc.2)
 have hrt:a_R (thW X k)=true:=by
  have h:=hro _ (List.mem_of_getElem? (k_a H.hk));simp only [e_o,Bool.and_eq_true] at h;exact h.1
 have hpc0:0≤(thW X k).pc∧(thW X k).pc≤1000:=by
  simp only [a_R,Bool.and_eq_true,decide_eq_true_eq] at hrt;exact hrt.1.1.1
 have hlf8:(thW X k).lf.length≤8:=(d_l hrt).2;obtain ⟨D,hD⟩:=mn (X.D);obtain ⟨bb,bo,q,c,hba,hbc,-,-⟩:=f_p H.bs (i:=k) (by have:=H.bs.1;have:=H.hk;omega);obtain ⟨bl,hbl⟩:=mn ((X.bs.getD k []).length);have HBL:=hid (show (bfW X k).length=bl from hbl);rw [hbl] at hbc;obtain ⟨x4,-⟩:=H.x 4 _ rfl;obtain ⟨x7,-⟩:=H.x 7 _ rfl;rw [hba] at x4;have i1:(0:Int)≤k:=by omega
 have i2:(k:Int) < L.bs.n:=by have:=H.bs.1;have:=H.hk;omega
 obtain ⟨fa,fc,la,lc,TQ,ht⟩:=p_Z H;obtain ⟨t10,-⟩:=ht 10 _ rfl;have q:=fun (d:Nat)=>h_y g b o0 L X k (w.drewN d) (t_y (below_drewN (Below.refl _ _) d) H)
 have ⟨HH,HRW,HWF,HPC,HLF⟩:=hh5 H hrw hwf hpc0 hlf8;have HN:=hid (fun (u:World) (hu:Below w.heap.size w u)=>o_3 g b o0 L X k u (t_y hu H) hpc0.1);have ⟨HT,HTQ⟩:=hh2 ht TQ;obtain ⟨t,htt⟩:=mn (thW X k);rw [htt] at t10 HN HT HTQ HWF HPC HLF;have HTT:=hid htt;have HY:=hid (show n_A X t (bfW X k)=y by rw [←hy,g_8,htt]);have HD:=hid hD;clear hy hrc hrm hrl hro hrt hpc0 hlf8 hD hba hbl ht htt H hrw hwf TQ
 go_enter Tryz.func39,Tryz.ntmps39
 go_upto_region 1 with fail
 go_quiet ((go_at_call 78;exact Calls.quiet_of (q _)))
 clear q x4 hbc x7;have t10:(w.drewN nq).cell? ⟨b,o0+k*13+10,none⟩=_:=t10;have HB0:=hid (show Below w.heap.size w (w.drewN nq) from below_drewN (Below.refl _ _) nq);obtain ⟨W,hW⟩:=nm (w.drewN nq);rw [←hW] at t10 HB0 ⊢;clear hW;have HH0:=hid (t_y HB0.out HH.out)
 by_cases st0:t.st=0
 ·have hs0:(t.st != 0)=false:=by simp [st0]
  have HST:=hid st0;clear st0;have HC:=hid (HN.out W HB0.out);clear HN
  go_wp2_with fail
  refine HC.out.mono ?_;clear HC;rintro e1 w1 ⟨rfl,hb1⟩;have HB1:=hid (a_a HB0.out hb1);clear hb1 t10 hs0;obtain ⟨i,hi⟩:=mn (inW X t.pc);rw [hi];have HI:=hid hi;obtain ⟨d,hd⟩:=mn (decide (t.pc < X.code.length));rw [hd];have HDD:=hid hd;clear hi hd
  go_upto_region 5 with (refine a_c rfl 66 _ _ rfl w1.heap.size (inC i).toArray rfl rfl _ (a_e (inC (0,0,0,0)) w1.heap.size rfl) rfl (by kernel_rfl) (by simp [Value.oneCell']) ?_;intro U HU)
  have HIU:=hid (show a_p U w1.heap.size (inC i) by rw [HU.out];exact a_q (a_e (inC (0,0,0,0)) _ rfl) rfl);have HBU:=N74;have HHU:=hid (t_y HBU.out HH.out);clear HU
  cases d with
  | false =>
   have HYV:=hid (show true=y by
    rw [←HY.out,n_A,if_neg (by rw [HST.out];simp),if_pos (by have:=of_decide_eq_false HDD.out;omega)])
   go_wp2_with fail
   go_ret
   exact a_k (s:=true) HYV.out.symm HBU.out
  | true =>
   have HYI:=hid (show k_C X t (bfW X k) i=y by
    rw [←HY.out,n_A,if_neg (by rw [HST.out];simp),if_neg (by have:=of_decide_eq_true HDD.out;omega),HI.out])
   have HMI:=hid (show c_K i X.code.length=true from HCI.out _ (by rw [←HI.out];exact q_Q HPC.out.1 (of_decide_eq_true HDD.out)));obtain ⟨op,ra,rb,rc⟩:=i;obtain ⟨q0,-⟩:=HIU.out 0 _ rfl;obtain ⟨x3,-⟩:=HHU.out.x 3 _ rfl;rw [HD.out] at x3
   by_cases h17:op=17
   ·subst h17;have HYV:=hid (show decide (D=0∨(bl:Int) < D)=y by rw [←HYI.out,k_C,if_pos rfl,HBL.out,HD.out])
    by_cases hD0:D=0
    ·have hd0:(D==0)=true:=by simpa using hD0
     have HYW:=hid (show true=y by rw [←HYV.out,decide_eq_true (.inl hD0)]);clear hD0
     go_wp2_with fail
     go_ret
     exact a_k (s:=true) HYW.out.symm HBU.out
    ·have hd0:(D==0)=false:=by simpa using hD0
     have HYW:=hid (show decide ((bl:Int) < D)=y by
      rw [←HYV.out]
      by_cases e:(bl:Int) < D
      ·rw [decide_eq_true e,decide_eq_true (.inr e)]
      ·rw [decide_eq_false e,decide_eq_false (fun h=>h.elim hD0 e)])
     clear hD0
     go_wp2_with fail
     go_ret
     exact a_k HYW.out.symm HBU.out
   ·by_cases hf:op=18∨op=19∨op=20∨op=21
    ·have HYV:=hid (show decide (bl=0)=y by rw [←HYI.out,k_C,if_neg h17,if_pos hf,HBL.out])
     have HYW:=hid (show ((bl:Int)==0)=y by
      rw [←HYV.out]
      by_cases e:bl=0
      ·subst e;simp
      ·rw [decide_eq_false e];simp;omega)
     rcases hf with rfl | rfl | rfl | rfl
     ·exact J92
     ·exact J92
     ·exact J92
     ·exact J92
    ·by_cases h22:op=22
     ·subst h22;have HYV:=hid (show r_X t.lf=y by rw [←HYI.out,k_C,if_neg (by simp),if_neg (by simp),if_pos rfl];rfl);have HTU:=hid (fun j v hj=>a_t HBU.out (HT.out j v hj).1);have t12:=HTU.out 12 _ rfl;have HC:=hid (q_k la t.lf.length lc t.lf U (d_9 (a_B (a_C HBU.out) HTQ.out.lf)) (by have:=HLF.out;omega));obtain ⟨lm,hlm⟩:=mn (t.lf.length);rw [hlm] at t12 HC;obtain ⟨az,haz⟩:=mn (r_X t.lf);rw [haz] at HC HYV;clear hlm haz
      go_wp2_with fail
      refine HC.out.mono ?_;clear HC;rintro e2 w2 ⟨rfl,hb2⟩;have HB2:=hid (a_a HBU.out hb2);clear hb2
      go_wp2_with fail
      go_ret
      exact a_k (by rw [←HYV.out]) HB2.out
     ·by_cases h23:op=23
      ·subst h23;obtain ⟨ha,hb,-⟩:=c_7 HMI.out (by simp);simp only at ha hb;have HYV:=hid (show (decide (bl=0)&&j_p X t (23,ra,rb,rc))=y by rw [←HYI.out,k_C,if_neg (by simp),if_neg (by simp),if_neg (by simp),if_pos rfl,HBL.out];rfl)
       by_cases hb0:bl=0
       ·have HYW:=hid (show j_p X t (23,ra,rb,rc)=y by rw [←HYV.out,decide_eq_true hb0,Bool.true_and])
        have HC0:=k_x g b o0 L X k (23,ra,rb,rc) U HHU.out ha hb (by
         obtain ⟨j,hj⟩:∃ j:Nat,rb=j:=⟨rb.toNat,by omega⟩;subst hj;rw [HTT.out,rgt,Int.toNat_natCast];exact HWF.out j (by omega))
        rw [HTT.out,HYW.out] at HC0;have HC:=hid HC0;obtain ⟨q1,-⟩:=HIU.out 1 _ rfl;obtain ⟨q2,-⟩:=HIU.out 2 _ rfl;obtain ⟨q3,-⟩:=HIU.out 3 _ rfl;clear HC0 ha hb;subst hb0
        go_wp2_with fail
        refine HC.out.mono ?_;clear HC;rintro e2 w2 ⟨rfl,hb2⟩;have HB2:=hid (a_a HBU.out hb2);clear hb2
        go_wp2_with fail
        go_ret
        exact a_k rfl HB2.out
       ·have HYW:=hid (show false=y by rw [←HYV.out,decide_eq_false hb0,Bool.false_and]);have hk0:((bl:Int)==0)=false:=by simp;omega
        clear hb0 ha hb
        go_wp2_with fail
        go_ret
        exact a_k (s:=false) HYW.out.symm HBU.out
      ·have HYV:=hid (show true=y by rw [←HYI.out,k_C,if_neg h17,if_neg hf,if_neg h22,if_neg h23]);have q17:(op==17)=false:=by simp;omega
       have q18:(op==18)=false:=by simp;omega
       have q19:(op==19)=false:=by simp;omega
       have q20:(op==20)=false:=by simp;omega
       have q21:(op==21)=false:=by simp;omega
       have q22:(op==22)=false:=by simp;omega
       have q23:(op==23)=false:=by simp;omega
       clear h17 hf h22 h23
       go_wp2_with fail
       go_ret
       exact a_k (s:=true) HYV.out.symm HBU.out
 ·have hs0:(t.st != 0)=true:=by simpa using st0
  have HYV:=hid (show false=y by rw [←HY.out,n_A,if_pos st0]);clear HN
  go_wp2_with fail
  go_ret
  exact a_k (s:=false) HYV.out.symm HB0.out
theorem q_7:∀ k,k < 27→opName.getD k []≠[]:=by
 have h:(List.range 27).all (fun k=>decide (opName.getD k []≠[]))=true:=by kernel_rfl
 intro k hk
 simpa using List.all_eq_true.1 h k (List.mem_range.2 hk)
theorem l_g (i:Ins) (m:Int) (w:World):Calls Tryz.prog 33 #[t_B i,.int .i64 m] w (b_h (c_K i m) w):=by
 obtain ⟨op,a,b,c⟩:=i
 show Calls Tryz.prog 33 #[.agg #[.int .i64 op,.int .i64 a,.int .i64 b,.int .i64 c],.int .i64 m] w (b_h (c_K (op,a,b,c) m) w)
 obtain ⟨W,hW⟩:∃ W,W=w.alloc (Obj.cells #[.int .i64 op,.int .i64 a,.int .i64 b,.int .i64 c] 66):=⟨_,rfl⟩;have X:a_p W w.heap.size [.int .i64 op,.int .i64 a,.int .i64 b,.int .i64 c]:=by rw [hW];exact a_e _ _ rfl
 have hB:=N2;have ⟨HB,HW,HX⟩:=hh3 hB hW X;clear hW X hB
 by_cases h0:0≤op∧op < 27
 ·obtain ⟨k,rfl⟩:∃ k:Nat,op=(k:Int):=⟨op.toNat,by omega⟩;have hk:k < 27:=by omega
  obtain ⟨sg,hsg⟩:=mn (opSign.getD k []);obtain ⟨nm,hnm⟩:=mn (opName.getD k []);have hne:nm.isEmpty=false:=by rw [←Bool.not_eq_true,List.isEmpty_iff,←hnm];exact q_7 k hk
  obtain ⟨s1,s2⟩:=m_k k hk;rw [hsg] at s1 s2;have hop:(opSign.getD ((k:Int),a,b,c).1.toNat [])=sg:=by rw [←hsg];rfl
  have ⟨HOP,HSC,H0⟩:=hh3 hop s2 h0;have hn1:=fun w'=>l_h k w' hk
  have hk1:=fun w'=>j_T k w' hk
  simp only [hnm] at hn1;simp only [hsg] at hk1;clear hsg hop h0 s2 hk hnm
  go_enter Tryz.func33,Tryz.ntmps33
  go_upto_region 1 with fail
  rw [←HW.out];have x0:=(HX.out 0 _ rfl).1;have x1:=(HX.out 1 _ rfl).1;have x2:=(HX.out 2 _ rfl).1;have x3:=(HX.out 3 _ rfl).1
  go_wp2_with fail
  refine (hn1 _).mono ?_;rintro e w1 ⟨rfl,hb1⟩;have HX1:=hid (a_h hb1 HX.out);have HBW:=hid hb1;clear hb1 x0 x1 x2 x3;have x0:=(HX1.out 0 _ rfl).1;have x1:=(HX1.out 1 _ rfl).1;have x2:=(HX1.out 2 _ rfl).1;have x3:=(HX1.out 3 _ rfl).1
  go_wp2_with fail
  refine (hk1 _).mono ?_;rintro e w2 ⟨rfl,hb2⟩;have HBW2:=hid (a_a HBW.out hb2);clear hb2 x0 x1 x2 x3 HBW HX1 hk1 hn1 hne
  go_wp2
  go_loopw [6] (fun i wr=>∃ j:Nat,j≤3∧i=.int .i64 j∧Hid (∀ q,q < j→kOk (k,a,b,c) m sg q=true)∧Hid (Below W.heap.size W wr)) (fun i _=>3 - (intOf i).toNat)
  case atStart=>exact ⟨0,by omega,rfl,(show ∀ q,q < 0→_ from fun q hq=>by omega),HBW2.out⟩
  case round =>
   clear HBW2;obtain ⟨j,hj,rfl,hok,HBW⟩:=hrel
   have hstep:∀ {j:Nat},(∀ q,q < j→kOk (k,a,b,c) m sg q=true)→kOk (k,a,b,c) m sg j=true→∀ q,q < j+1→kOk (k,a,b,c) m sg q=true:=fun h1 h2 q hq=>by
    rcases Nat.lt_succ_iff_lt_or_eq.1 hq with h | rfl
    ·exact h1 q h
    ·exact h2
   have HXR:=hid (a_h HBW.out HX.out);have x0:=(HXR.out 0 _ rfl).1;have x1:=(HXR.out 1 _ rfl).1;have x2:=(HXR.out 2 _ rfl).1;have x3:=(HXR.out 3 _ rfl).1;clear HXR
   rcases (show j=0∨j=1∨j=2∨j=3 by omega) with rfl | rfl | rfl | rfl
   ·have hoj:e_c ((k:Int),a,b,c) 0=a:=rfl
    by_cases hlt:0 < sg.length
    ·have hjs:0 < (str sg).size:=by rw [f_g];exact hlt
     have hbt:(str sg)[0].toNat=(sg.getD 0 0).toNat:=by rw [e_8,e_y]
     have hcc:=HSC.out 0 hlt;have hv:kOk ((k:Int),a,b,c) m sg 0=b_T (sg.getD 0 0).toNat a m:=by rw [kOk,if_pos hlt];rfl
     have j1:¬ sg=[]:=by intro e;subst e;simp at hlt
     have j2:0 < sg.length:=hlt;clear hlt
     rcases hcc with hc | hc | hc
     ·rw [hc] at hv hbt;clear hc
      by_cases hlo:a < 0
      ·exact J10
      ·by_cases hhi:7 < a
       ·exact J10
       ·have hf:=N167;clear hv hoj;exact J29
     ·rw [hc] at hv hbt;clear hc
      by_cases hlo:a < -1000000000
      ·exact J10
      ·by_cases hhi:1000000000 < a
       ·exact J10
       ·have hf:=N167;clear hv hoj;exact J29
     ·rw [hc] at hv hbt;clear hc
      by_cases hlo:a < 0
      ·exact J10
      ·by_cases hhi:m < a
       ·exact J10
       ·have hf:=N167;clear hv hoj;exact J29
    ·have hv:=N234;have j1:sg=[]:=List.eq_nil_of_length_eq_zero (by omega);clear hlt hoj;subst j1
     by_cases hz:a=0
     ·have hf:kOk ((k:Int),a,b,c) m [] 0=true:=by rw [hv];exact decide_eq_true hz
      have q:(a != 0)=false:=by simpa using hz
      clear hz hv;exact J29
     ·have hf:kOk ((k:Int),a,b,c) m [] 0=false:=by rw [hv];exact decide_eq_false hz
      have q:(a != 0)=true:=by simpa using hz
      clear hz hv;have HS:=hid (b_G (i:=((k:Int),a,b,c)) (m:=m) (k:=0) (by omega) (by rw [HOP.out];exact (hf)));clear hok hstep
      go_wp2_with fail
      refine (a_F ((k:Int),a,b,c) 0 _ (by omega)).mono ?_;rintro e w1 ⟨rfl,hb1⟩;rw [show e_c ((k:Int),a,b,c) 0=a from rfl];exact J12
   ·have hoj:e_c ((k:Int),a,b,c) 1=b:=rfl
    by_cases hlt:1 < sg.length
    ·have hjs:1 < (str sg).size:=by rw [f_g];exact hlt
     have hbt:(str sg)[1].toNat=(sg.getD 1 0).toNat:=by rw [e_8,e_y]
     have hcc:=HSC.out 1 hlt;have hv:kOk ((k:Int),a,b,c) m sg 1=b_T (sg.getD 1 0).toNat b m:=by rw [kOk,if_pos hlt];rfl
     have j1:¬ (sg.length:Int)≤1:=by omega
     have j2:1 < sg.length:=hlt;have j3:((1:Int)) < sg.length:=by omega
     clear hlt
     rcases hcc with hc | hc | hc
     ·rw [hc] at hv hbt;clear hc
      by_cases hlo:b < 0
      ·exact J9
      ·by_cases hhi:7 < b
       ·exact J9
       ·have hf:=N168;clear hv hoj;exact J28
     ·rw [hc] at hv hbt;clear hc
      by_cases hlo:b < -1000000000
      ·exact J9
      ·by_cases hhi:1000000000 < b
       ·exact J9
       ·have hf:=N168;clear hv hoj;exact J28
     ·rw [hc] at hv hbt;clear hc
      by_cases hlo:b < 0
      ·exact J9
      ·by_cases hhi:m < b
       ·exact J9
       ·have hf:=N168;clear hv hoj;exact J28
    ·have hv:=N235;have j1:(sg.length:Int)≤1:=by omega
     clear hlt hoj
     by_cases hz:b=0
     ·have hf:kOk ((k:Int),a,b,c) m sg 1=true:=by rw [hv];exact decide_eq_true hz
      have q:(b != 0)=false:=by simpa using hz
      clear hz hv;exact J28
     ·have hf:kOk ((k:Int),a,b,c) m sg 1=false:=by rw [hv];exact decide_eq_false hz
      have q:(b != 0)=true:=by simpa using hz
      clear hz hv;have HS:=hid (b_G (i:=((k:Int),a,b,c)) (m:=m) (k:=1) (by omega) (by rw [HOP.out];exact (hf)));clear hok hstep
      go_wp2_with fail
      refine (a_F ((k:Int),a,b,c) 1 _ (by omega)).mono ?_;rintro e w1 ⟨rfl,hb1⟩;rw [show e_c ((k:Int),a,b,c) 1=b from rfl];exact J12
   ·have hoj:e_c ((k:Int),a,b,c) 2=c:=rfl
    by_cases hlt:2 < sg.length
    ·have hjs:2 < (str sg).size:=by rw [f_g];exact hlt
     have hbt:(str sg)[2].toNat=(sg.getD 2 0).toNat:=by rw [e_8,e_y]
     have hcc:=HSC.out 2 hlt;have hv:kOk ((k:Int),a,b,c) m sg 2=b_T (sg.getD 2 0).toNat c m:=by rw [kOk,if_pos hlt];rfl
     have j1:¬ (sg.length:Int)≤2:=by omega
     have j2:2 < sg.length:=hlt;have j3:((2:Int)) < sg.length:=by omega
     clear hlt
     rcases hcc with hc | hc | hc
     ·rw [hc] at hv hbt;clear hc
      by_cases hlo:c < 0
      ·exact J8
      ·by_cases hhi:7 < c
       ·exact J8
       ·have hf:=N169;clear hv hoj;exact J27
     ·rw [hc] at hv hbt;clear hc
      by_cases hlo:c < -1000000000
      ·exact J8
      ·by_cases hhi:1000000000 < c
       ·exact J8
       ·have hf:=N169;clear hv hoj;exact J27
     ·rw [hc] at hv hbt;clear hc
      by_cases hlo:c < 0
      ·exact J8
      ·by_cases hhi:m < c
       ·exact J8
       ·have hf:=N169;clear hv hoj;exact J27
    ·have hv:=N236;have j1:(sg.length:Int)≤2:=by omega
     clear hlt hoj
     by_cases hz:c=0
     ·have hf:kOk ((k:Int),a,b,c) m sg 2=true:=by rw [hv];exact decide_eq_true hz
      have q:(c != 0)=false:=by simpa using hz
      clear hz hv;exact J27
     ·have hf:kOk ((k:Int),a,b,c) m sg 2=false:=by rw [hv];exact decide_eq_false hz
      have q:(c != 0)=true:=by simpa using hz
      clear hz hv;have HS:=hid (b_G (i:=((k:Int),a,b,c)) (m:=m) (k:=2) (by omega) (by rw [HOP.out];exact (hf)));clear hok hstep
      go_wp2_with fail
      refine (a_F ((k:Int),a,b,c) 2 _ (by omega)).mono ?_;rintro e w1 ⟨rfl,hb1⟩;rw [show e_c ((k:Int),a,b,c) 2=c from rfl];exact J12
   ·have HS:=N187;have HB2:=hid (a_a HB.out HBW.out);clear hok hstep HBW
    go_wp2
    go_ret
    exact a_k HS.out HB2.out
 ·have HS:=hid (o_R (i:=(op,a,b,c)) (m:=m) h0)
  go_enter Tryz.func33,Tryz.ntmps33
  go_upto_region 1 with fail
  rw [←HW.out];have x0:=(HX.out 0 _ rfl).1;have x1:=(HX.out 1 _ rfl).1;have x2:=(HX.out 2 _ rfl).1;have x3:=(HX.out 3 _ rfl).1
  go_wp2_with fail
  refine (n_d op _ h0).mono ?_;rintro e w1 ⟨rfl,hb1⟩;have HB1:=hid (a_a HB.out hb1);clear hb1 x0 x1 x2 x3
  go_wp2
  go_ret
  exact a_k HS.out HB1.out
theorem e_w (a:Option Addr) (n c:Nat) (cs:List Ins) (w:World) (S:Vs repIns Any w a n cs) (hn:n≤9223372036854775807) :
  Calls Tryz.prog 11 #[.slice a n c] w (b_h (b_U cs) w):=by
 have Hn:=hid S.1
 by_cases h6:n≤1000
 ·have i6:¬ (1000:Int) < n:=by omega
  go_enter Tryz.func11,Tryz.ntmps11
  go_wp2
  go_loopw [10] (fun i wr=>∃ k:Nat,k≤n∧i=.int .i64 k∧Hid (k_r cs n k)∧Below w.heap.size w wr) (fun i _=>n - (intOf i).toNat)
  case atStart=>exact ⟨0,by omega,rfl,(show k_r cs n 0 from fun q i hq=>by omega),Below.refl _ _⟩
  case round =>
   obtain ⟨k,hk,rfl,hf,hb⟩:=hrel;obtain ⟨wo,hwo⟩:∃ wo:World,wo=wr:=⟨_,rfl⟩;subst hwo
   by_cases hlt:k < n
   ·obtain ⟨b,o,x0,x1,x2,x3,rfl,hx,g0,g1,g2,g3⟩:=l_0 (g_u hb S) hlt;have ⟨HX,HB⟩:=hh2 hx hb;have HB2:=N161;have i1:(0:Int)≤k:=by omega
    have i2:(k:Int) < n:=by omega
    clear hx hb;obtain ⟨mb,hmb⟩:=mn (c_K (x0,x1,x2,x3) n);have HM:=hid hmb;clear hmb
    go_wp2_with fail
    have h0:=l_g (x0,x1,x2,x3) n (wo.alloc (Obj.cells #[.int .i64 x0,.int .i64 x1,.int .i64 x2,.int .i64 x3] 66));exact J57
   ·obtain rfl:k=n:=by omega
    have HB:=hid hb;clear hb
    go_wp2
    go_ret
    exact a_k (i_g Hn.out h6 hf.out) HB.out
 ·have i6:(1000:Int) < n:=by omega
  have HS:=hid (h_u (c:=cs) (by rw [Hn.out];exact h6));clear h6
  go_enter Tryz.func11,Tryz.ntmps11
  go_wp2
  go_ret
  exact a_k HS.out (Below.refl _ _)
theorem m_v {w:World} {fa la:Option Addr} {fn fc ln lc:Nat} {t:Thr} (h:ThQ Any w fa fn fc la ln lc t):ThQ (fun b=>Any b∧b < w.heap.size) w fa fn fc la ln lc t:=d_w h
theorem n_g (L:WoL) (X:Wo) (w:World) (R:RWo Any w L X) :
  Calls Tryz.prog 17 #[woV L X.D] w (b_h (a_6 X) w):=by
 obtain ⟨D,hD⟩:=mn (X.D);have HD:=hid hD;rw [hD];obtain ⟨W,hW⟩:=nm (w.alloc (Obj.cells (woC L D).toArray 33));have HX:=N125;have HB:=N3;have ⟨HW,HR⟩:=hh2 hW R;have HTN:=N146;have HBN:=hid (show X.bs.length=L.bs.n from R.bs.1);clear hW hD R;unfold woV
 go_enter Tryz.func17,Tryz.ntmps17
 go_upto_region 1 with fail
 rw [←HW.out];obtain ⟨x0,-⟩:=HX.out 0 _ rfl;have h0:=e_w L.co.a L.co.n L.co.c X.code W (b_e (fun _ _=>trivial) (b_q HB.out HR.out).co) (by have h:=HR.out.cco;unfold Sp.ok Cap at h;omega)
 cases hrc:b_U X.code with
 | false =>
  exact J78
 | true =>
  rw [hrc] at h0;have ⟨HC,HRC⟩:=hh2 h0 hrc;clear h0 hrc
  go_wp2_with fail
  refine HC.out.mono ?_;clear HC x0;rintro e1 w1 ⟨rfl,hb1⟩;have HX1:=hid (a_h hb1 HX.out);have HB1:=hid (a_a HB.out hb1);have HR1:=hid (b_q HB1.out HR.out);clear hb1;obtain ⟨x1,-⟩:=HX1.out 1 _ rfl;obtain ⟨x2,-⟩:=HX1.out 2 _ rfl;obtain ⟨x3,-⟩:=HX1.out 3 _ rfl;obtain ⟨x4,-⟩:=HX1.out 4 _ rfl;obtain ⟨x5,-⟩:=HX1.out 5 _ rfl;have h0:=i_Z L.ws.a L.ts.a L.bs.a L.ws.n L.ws.c L.ts.n L.ts.c L.bs.n L.bs.c X.ws X.ts D X.bs w1 HR1.out.ws.sl HR1.out.ts.sl HR1.out.bs.bl
  cases hm:d_o X.ws X.ts D X.bs with
  | false =>
   exact J70
  | true =>
   rw [hm] at h0;have HC:=hid h0;have HM:=hid (show d_o X.ws X.ts X.D X.bs=true by rw [HD.out];exact hm);clear h0 hm
   go_wp2_with fail
   refine HC.out.mono ?_;clear HC x1 x2 x3 x4 x5;rintro e2 w2 ⟨rfl,hb2⟩;have HX2:=hid (a_h hb2 HX1.out);have HB2:=hid (a_a HB1.out hb2);clear hb2;obtain ⟨x4,-⟩:=HX2.out 4 _ rfl;obtain ⟨x5,-⟩:=HX2.out 5 _ rfl
   by_cases hl:L.th.n=L.bs.n
   ·have HBL:=hid hl;have hne:((L.th.n:Int) != (L.bs.n:Int))=false:=by simp [hl]
    clear hl;obtain ⟨b0,o0,t0,a0,c0,d0,e0,hta,-,-,-,-⟩:=N208;have HTA:=hid hta;rw [hta] at x5;obtain ⟨n,hn⟩:=mn (L.th.n);have HNL:=hid hn;rw [hn] at x5 hne;clear hta;clear hn
    go_wp2_with fail
    clear x4 x5 hne
    go_loopw [28] (fun i wr=>∃ k:Nat,k≤n∧i=.int .i64 k∧Hid (n_L X.th n k)∧Hid (Below w2.heap.size w2 wr)) (fun i _=>n - (intOf i).toNat)
    case atStart=>exact ⟨0,by omega,rfl,fun i t hi=>by omega,Below.refl _ _⟩
    case round =>
     obtain ⟨k,hk,rfl,ho,hb⟩:=hrel;have HB3:=hid (a_a HB2.out hb.out);have HX3:=hid (a_h hb.out HX2.out);have HR3:=hid (b_q HB3.out HR.out)
     by_cases hlt:k < n
     ·obtain ⟨tb,tq,t,ta,tc,qa,qc,htl,htt,-,T,hr⟩:=c_3 HR3.out.th (k:=k) (by have:=HNL.out;omega);obtain ⟨x5,-⟩:=HX3.out 5 _ rfl;rw [HTA.out] at htl
      cases htl
      rw [HTA.out,HNL.out] at x5;obtain ⟨tn,htn⟩:=mn (t.fs.length);obtain ⟨tm,htm⟩:=mn (t.lf.length);rw [htn,htm] at T hr;have HRA:=hid (show wr.rangeAt b0 (o0+k*13) (thC t ta tn tc qa tm qc) from hr);have ⟨HTT,HTM,HT⟩:=hh3 htt htm T;have hsz:=hb.out.size;have HSZ:=hid (show w.heap.size < wr.heap.size from a_N HX3.out (by simp));obtain ⟨wo,hwo⟩:=nm (wr);subst hwo;have i1:(0:Int)≤k:=by omega
      have i2:(k:Int) < n:=by omega
      clear htt T hr htn htm
      go_upto_region 6 with (first | (refine wpList_load_mid rfl 46 _ rfl b0 (o0+k*13) rfl (thC t ta tn tc qa tm qc) _ HRA.out Tryz.underlying46 rfl (by kernel_rfl) ?_) | (refine a_c rfl 46 _ _ rfl wo.heap.size (thC t ta tn tc qa tm qc).toArray rfl rfl _ (a_e thN wo.heap.size rfl) rfl (by kernel_rfl) (a_L _ _ _ _ _ _ _) ?_;intro V HV))
      have HT2:=N177;have HX4:=N164;have HB4:=N206
      have HTV:=hid (show ThQ Any V ta tn tc qa tm qc t from by
       have hk:=N165;exact b_t (fun _ _=>trivial) (a_v hk (b_t (fun _ h=>h.2) (m_v HT.out))))
      clear HV HRA hsz x5 i1 i2;have h0:=i_Y t ta qa tn tc tm qc V HTV.out.f
      cases hrt:a_R t with
      | false =>
       exact J49
      | true =>
       exact J20
     ·exact J90
   ·exact J85
theorem i_4 (L:WoL) (X:Wo) (w:World) (R:RWo Any w L X) (G:Glob w) :
  Calls Tryz.prog 15 #[woV L X.D] w (b_h (a_6 X) w):=by
 obtain ⟨D,hD⟩:=mn (X.D);have HD:=hid hD;rw [hD];obtain ⟨W,hW⟩:=nm (w.alloc (Obj.cells (woC L D).toArray 33));have HX:=N125;have HB:=N3;have ⟨HW,HR⟩:=hh2 hW R;have HG:=hid (G.B HB.out);have HTN:=N146;have HBN:=hid (show X.bs.length=L.bs.n from R.bs.1);clear hW hD R G;unfold woV
 go_enter Tryz.func15,Tryz.ntmps15
 go_upto_region 1 with fail
 rw [←HW.out];obtain ⟨x0,-⟩:=HX.out 0 _ rfl;have h0:=g_A L.co.a L.co.n L.co.c X.code W (b_e (fun _ _=>trivial) (b_q HB.out HR.out).co) (by have h:=HR.out.cco;unfold Sp.ok Cap at h;omega) HG.out
 cases hrc:b_U X.code with
 | false =>
  exact J78
 | true =>
  rw [hrc] at h0;have ⟨HC,HRC⟩:=hh2 h0 hrc;clear h0 hrc
  go_wp2_with fail
  refine HC.out.mono ?_;clear HC x0;rintro e1 w1 ⟨rfl,hb1⟩;have HX1:=hid (a_h hb1 HX.out);have HB1:=hid (a_a HB.out hb1);have HR1:=hid (b_q HB1.out HR.out);clear hb1;obtain ⟨x1,-⟩:=HX1.out 1 _ rfl;obtain ⟨x2,-⟩:=HX1.out 2 _ rfl;obtain ⟨x3,-⟩:=HX1.out 3 _ rfl;obtain ⟨x4,-⟩:=HX1.out 4 _ rfl;obtain ⟨x5,-⟩:=HX1.out 5 _ rfl;have h0:=i_7 L.ws.a L.ts.a L.bs.a L.ws.n L.ws.c L.ts.n L.ts.c L.bs.n L.bs.c X.ws X.ts D X.bs w1 HR1.out.ws.sl HR1.out.ts.sl HR1.out.bs.bl
  cases hm:d_o X.ws X.ts D X.bs with
  | false =>
   exact J70
  | true =>
   rw [hm] at h0;have HC:=hid h0;have HM:=hid (show d_o X.ws X.ts X.D X.bs=true by rw [HD.out];exact hm);clear h0 hm
   go_wp2_with fail
   refine HC.out.mono ?_;clear HC x1 x2 x3 x4 x5;rintro e2 w2 ⟨rfl,hb2⟩;have HX2:=hid (a_h hb2 HX1.out);have HB2:=hid (a_a HB1.out hb2);clear hb2;obtain ⟨x4,-⟩:=HX2.out 4 _ rfl;obtain ⟨x5,-⟩:=HX2.out 5 _ rfl
   by_cases hl:L.th.n=L.bs.n
   ·have HBL:=hid hl;have hne:((L.th.n:Int) != (L.bs.n:Int))=false:=by simp [hl]
    clear hl;obtain ⟨b0,o0,t0,a0,c0,d0,e0,hta,-,-,-,-⟩:=N208;have HTA:=hid hta;rw [hta] at x5;obtain ⟨n,hn⟩:=mn (L.th.n);have HNL:=hid hn;rw [hn] at x5 hne;clear hta;clear hn
    go_wp2_with fail
    clear x4 x5 hne
    go_loopw [28] (fun i wr=>∃ k:Nat,k≤n∧i=.int .i64 k∧Hid (n_L X.th n k)∧Hid (Below w2.heap.size w2 wr)) (fun i _=>n - (intOf i).toNat)
    case atStart=>exact ⟨0,by omega,rfl,fun i t hi=>by omega,Below.refl _ _⟩
    case round =>
     obtain ⟨k,hk,rfl,ho,hb⟩:=hrel;have HB3:=hid (a_a HB2.out hb.out);have HX3:=hid (a_h hb.out HX2.out);have HR3:=hid (b_q HB3.out HR.out)
     by_cases hlt:k < n
     ·obtain ⟨tb,tq,t,ta,tc,qa,qc,htl,htt,-,T,hr⟩:=c_3 HR3.out.th (k:=k) (by have:=HNL.out;omega);obtain ⟨x5,-⟩:=HX3.out 5 _ rfl;rw [HTA.out] at htl
      cases htl
      rw [HTA.out,HNL.out] at x5;obtain ⟨tn,htn⟩:=mn (t.fs.length);obtain ⟨tm,htm⟩:=mn (t.lf.length);rw [htn,htm] at T hr;have HRA:=hid (show wr.rangeAt b0 (o0+k*13) (thC t ta tn tc qa tm qc) from hr);have ⟨HTT,HTM,HT⟩:=hh3 htt htm T;have hsz:=hb.out.size;have HSZ:=hid (show w.heap.size < wr.heap.size from a_N HX3.out (by simp));obtain ⟨wo,hwo⟩:=nm (wr);subst hwo;have i1:(0:Int)≤k:=by omega
      have i2:(k:Int) < n:=by omega
      clear htt T hr htn htm
      go_upto_region 6 with (first | (refine wpList_load_mid rfl 46 _ rfl b0 (o0+k*13) rfl (thC t ta tn tc qa tm qc) _ HRA.out Tryz.underlying46 rfl (by kernel_rfl) ?_) | (refine a_c rfl 46 _ _ rfl wo.heap.size (thC t ta tn tc qa tm qc).toArray rfl rfl _ (a_e thN wo.heap.size rfl) rfl (by kernel_rfl) (a_L _ _ _ _ _ _ _) ?_;intro V HV))
      have HT2:=N177;have HX4:=N164;have HB4:=N206
      have HTV:=hid (show ThQ Any V ta tn tc qa tm qc t from by
       have hk:=N165;exact b_t (fun _ _=>trivial) (a_v hk (b_t (fun _ h=>h.2) (m_v HT.out))))
      clear HV HRA hsz x5 i1 i2;have h0:=d_i t ta qa tn tc tm qc V HTV.out.f
      cases hrt:a_R t with
      | false =>
       exact J49
      | true =>
       exact J20
     ·exact J90
   ·exact J85
end Go.Proofs.YtogdpojnbgeknaaGreatDoor
namespace Go.Proofs.YtogdpojnbgeknaaGreatDoor
open Go.ChangeShapes Go.WideShapes Go.ChangeAt Go.RowKit
open Gen
theorem o_D:(Tryz.prog.info? 101).map (fun i=>(i.zero,i.size,i.bytes))=some (some (.agg #[.int .i64 0,.int .i64 0,.int .i64 0,.int .i64 0,.int .i64 0,.int .i64 0]),6,48):=by kernel_rfl
theorem l_Y {Q:Nat→Prop} {w:World} (ys:List Ev):d_p repEv Q w (ys.flatMap j_E) ys:=e_U (k:=6) (f:=j_E) (hk:=by decide) (hf:=fun _=>rfl) ys
theorem s_X (ys:List Ev):(ys.flatMap j_E).length=ys.length*6:=b_f (l_Y (Q:=Any) (w:=default) ys)
theorem s_5 (ys:List Ev):∀ u∈ys.flatMap j_E,u.oneCell'=true:=by
 intro u hu;obtain ⟨y,_,h⟩:=List.mem_flatMap.1 hu;simp [j_E] at h;rcases h with rfl | rfl | rfl | rfl | rfl | rfl <;> rfl
theorem n_u {Q:Nat→Prop} {w:World} {a:Option Addr} {n:Nat} {ys:List Ev} (h:Vs repEv Q w a n ys):∀ b,a=some b→∀ j u,(ys.flatMap j_E)[j]?=some u→w.cell? (b.add j)=some u:=
 k_d (k:=6) (f:=j_E) (hk:=by decide) (hf:=fun _=>rfl) h
theorem g_x {ops:Array Oper} {rest:List Oper} {o:Oper} {a:Act} {Q:Exit→Act→World→Prop} {w:World} (hgd:o.guard=none) (s x:Operand)
  (ho:o.op=.call { callee:=.builtin .append,args:=#[s,x],argTypes:=#[31,31] }) (base:Nat) (v:Value) (n:Nat) (xs:List Value) (hs:a.eval s=v) (hown:w.ownsRow base 101 6 v n xs)
  (fa:Option Addr) (m c:Nat) (ys:List Ev) (hx:a.eval x=.slice fa m c) (V:Vs repEv Any w fa m ys) (C:Cap fa m c) (hn:n+m≤1000000) (hbase:base≤w.heap.size)
  (h:∀ v' w',w'.ownsRow base 101 6 v' (n+m) (xs++ys.flatMap j_E)→w.grownBy w' v.ownBlock→wpList Tryz.prog ops Q rest (a.put o.dst v') w'):wpList Tryz.prog ops Q (o::rest) a w:=by
 obtain ⟨i0,hi,hz0,hz1,hz2⟩:=info_parts o_D
 cases fa with
 | none =>
  obtain rfl:c=0:=C.2.2 rfl;obtain rfl:m=0:=by have:=C.1;omega
  obtain rfl:ys=[]:=List.eq_nil_of_length_eq_zero V.1;refine wpList_append_own_none hgd s x 31 ho base 101 i0 6 Tryz.underlying31 hi v n xs hs hown hx (h v w ?_ (World.grownBy.refl _ _))
  simpa using hown
 | some p =>
  exact wpList_append_own w hgd s x 31 ho base 101 i0 (.agg #[.int .i64 0,.int .i64 0,.int .i64 0,.int .i64 0,.int .i64 0,.int .i64 0]) 6 48 Tryz.underlying31 hi hz0 hz1 hz2 rfl (by decide) v n xs hs hown p m c (ys.flatMap j_E) hx (by rw [s_X,V.1]) (n_u V p rfl) (s_5 _) (by unfold maxLen;omega) (by omega) hbase (fun v' w' h1 h2 _=>h v' w' h1 h2)
def WoL.setEv (L:WoL) (p:Sp):WoL:={ L with ev:=p }
theorem p_x {Q:Nat→Prop} {w:World} {L:WoL} {X:Wo} (R:RWo Q w L X) {p:Sp} {ev:List Ev} (V:Vs repEv Q w p.a p.n ev) (C:p.ok):RWo Q w (L.setEv p) { X with ev:=ev }:=⟨R.co,R.ws,R.ts,R.bs,R.th,V,R.cco,R.cth,C⟩
end Go.Proofs.YtogdpojnbgeknaaGreatDoor
namespace Go.Proofs.YtogdpojnbgeknaaGreatDoor
open Go.ChangeShapes Go.WideShapes Go.ChangeAt Go.RowKit
open Gen
open Lib (hid)
def g_X (e:TypeId) (sz n:Nat) (cs:List Value) (w:World) (en:Ending) (w':World):Prop:=∃ a c,en=.returned (.slice a n c)∧Cap a n c∧w'.ownsRow w.heap.size e sz (.slice a n c) n cs∧Below w.heap.size w w'
theorem e_R {e:TypeId} {sz n:Nat} {cs:List Value} {v:Value} {w w':World} (h:w'.ownsRow w.heap.size e sz v n cs) (hb:Below w.heap.size w w'):g_X e sz n cs w (.returned v) w':=by
 obtain ⟨a,c,rfl⟩:=c_g h;refine ⟨a,c,rfl,?_,h,hb⟩
 rcases h.2 with ⟨h1,rfl⟩ | ⟨g,cap,cur,h1,-,-,h2,h3,-,-⟩
 ·cases h1;exact b_W
 ·cases h1;exact ⟨h2,by unfold maxLen at h3;omega,fun h=>by cases h⟩
theorem g_R {w:World} {B:Nat} {e:TypeId} {sz n c g:Nat} {cs:List Value} (h:w.ownsRow B e sz (.slice (some ⟨g,0,none⟩) n c) n cs):a_p w g cs:=by
 rcases h.2 with ⟨h1,-⟩ | ⟨g2,cap,cur,h1,-,h2,-,-,-,h3⟩
 ·cases h1
 ·cases h1
  intro i v hi;refine ⟨?_,by simp [World.frozen?,h2]⟩;rw [←h3,List.getElem?_take] at hi
  split at hi
  ·simp only [World.cell?,h2]
   simpa using hi
  ·cases hi
theorem s_R:(Tryz.prog.info? 3).map (fun i=>(i.zero,i.size,i.bytes))=some (some (.int .i64 0),1,8):=by kernel_rfl
theorem g_9 (a:Option Addr) (n c:Nat) (cs:List Value) (w:World) (hl:cs.length=n*1) (hs:∀ p,a=some p→∀ j u,cs[j]?=some u→w.cell? (p.add j)=some u) (h1:∀ u∈cs,u.oneCell'=true) (ha:a=none→n=0) (hn:n≤1000000) :
  Calls Tryz.prog 85 #[.slice a n c] w (g_X 3 1 n cs w):=by
 obtain ⟨i0,hi,hz0,hz1,hz2⟩:=info_parts s_R;have HI:=N47;have ⟨HL,HS,H1⟩:=hh3 hl hs h1;have q:=fun w=>d_R 23 3 a n c Tryz.underlying23 w
 clear hi hz0 hz1 hz2 hl hs h1
 cases a with
 | none =>
  obtain rfl:n=0:=ha rfl;obtain rfl:cs=[]:=List.eq_nil_of_length_eq_zero (by have:=HL.out;omega);clear ha hn
  go_enter Tryz.func85,Tryz.ntmps85
  exact J67
 | some p =>
  clear ha
  go_enter Tryz.func85,Tryz.ntmps85
  go_wp2_with (at_builtin;refine wpList_append_own _ rfl _ _ 23 rfl w.heap.size 3 i0 (.int .i64 0) 1 8 Tryz.underlying23 HI.out.1 HI.out.2.1 HI.out.2.2.1 HI.out.2.2.2 rfl (by decide) _ 0 [] rfl (World.ownsRow_made w #[] 0 (Nat.le_refl _) (by decide) (by simp)) p n c cs rfl ?c1 ?c2 ?c3 ?c4 ?c5 ?c6 ?_)
  case c1=>exact HL.out
  case c2=>exact fun j u hj=>a_8 _ (HS.out p rfl j u hj)
  case c3=>exact H1.out
  case c4=>unfold maxLen;omega
  case c5=>omega
  case c6=>simp
  intro v' w1 hown' hgrow _;have hb':=N86;have ⟨HO,HB⟩:=hh2 hown' hb';clear hown' hb' hgrow
  go_wp2
  go_ret
  exact e_R HO.out HB.out
theorem q_R:(Tryz.prog.info? 66).map (fun i=>(i.zero,i.size,i.bytes))=some (some (.agg #[.int .i64 0,.int .i64 0,.int .i64 0,.int .i64 0]),4,32):=by kernel_rfl
theorem g_D (a:Option Addr) (n c:Nat) (cs:List Value) (w:World) (hl:cs.length=n*4) (hs:∀ p,a=some p→∀ j u,cs[j]?=some u→w.cell? (p.add j)=some u) (h1:∀ u∈cs,u.oneCell'=true) (ha:a=none→n=0) (hn:n≤1000000) :
  Calls Tryz.prog 32 #[.slice a n c] w (g_X 66 4 n cs w):=by
 obtain ⟨i0,hi,hz0,hz1,hz2⟩:=info_parts q_R;have HI:=N47;have ⟨HL,HS,H1⟩:=hh3 hl hs h1;have q:=fun w=>d_R 22 66 a n c Tryz.underlying22 w
 clear hi hz0 hz1 hz2 hl hs h1
 cases a with
 | none =>
  obtain rfl:n=0:=ha rfl;obtain rfl:cs=[]:=List.eq_nil_of_length_eq_zero (by have:=HL.out;omega);clear ha hn
  go_enter Tryz.func32,Tryz.ntmps32
  exact J67
 | some p =>
  clear ha
  go_enter Tryz.func32,Tryz.ntmps32
  go_wp2_with (at_builtin;refine wpList_append_own _ rfl _ _ 22 rfl w.heap.size 66 i0 (.agg #[.int .i64 0,.int .i64 0,.int .i64 0,.int .i64 0]) 4 32 Tryz.underlying22 HI.out.1 HI.out.2.1 HI.out.2.2.1 HI.out.2.2.2 rfl (by decide) _ 0 [] rfl (World.ownsRow_made w #[] 0 (Nat.le_refl _) (by decide) (by simp)) p n c cs rfl ?c1 ?c2 ?c3 ?c4 ?c5 ?c6 ?_)
  case c1=>exact HL.out
  case c2=>exact fun j u hj=>a_8 _ (HS.out p rfl j u hj)
  case c3=>exact H1.out
  case c4=>unfold maxLen;omega
  case c5=>omega
  case c6=>simp
  intro v' w1 hown' hgrow _;have hb':=((Below.refl w.heap.size w).alloc (Nat.le_refl _) (.cells #[] 66)).grown hgrow (by simp) (fun r hr=>by cases hr;simp);have ⟨HO,HB⟩:=hh2 hown' hb';clear hown' hb' hgrow
  go_wp2
  go_ret
  exact e_R HO.out HB.out
theorem s_Q:(Tryz.prog.info? 101).map (fun i=>(i.zero,i.size,i.bytes))=some (some (.agg #[.int .i64 0,.int .i64 0,.int .i64 0,.int .i64 0,.int .i64 0,.int .i64 0]),6,48):=by kernel_rfl
theorem k_F (a:Option Addr) (n c:Nat) (cs:List Value) (w:World) (hl:cs.length=n*6) (hs:∀ p,a=some p→∀ j u,cs[j]?=some u→w.cell? (p.add j)=some u) (h1:∀ u∈cs,u.oneCell'=true) (ha:a=none→n=0) (hn:n≤1000000) :
  Calls Tryz.prog 84 #[.slice a n c] w (g_X 101 6 n cs w):=by
 obtain ⟨i0,hi,hz0,hz1,hz2⟩:=info_parts s_Q;have HI:=N47;have ⟨HL,HS,H1⟩:=hh3 hl hs h1;have q:=fun w=>d_R 31 101 a n c Tryz.underlying31 w
 clear hi hz0 hz1 hz2 hl hs h1
 cases a with
 | none =>
  obtain rfl:n=0:=ha rfl;obtain rfl:cs=[]:=List.eq_nil_of_length_eq_zero (by have:=HL.out;omega);clear ha hn
  go_enter Tryz.func84,Tryz.ntmps84
  exact J67
 | some p =>
  clear ha
  go_enter Tryz.func84,Tryz.ntmps84
  go_wp2_with (at_builtin;refine wpList_append_own _ rfl _ _ 31 rfl w.heap.size 101 i0 (.agg #[.int .i64 0,.int .i64 0,.int .i64 0,.int .i64 0,.int .i64 0,.int .i64 0]) 6 48 Tryz.underlying31 HI.out.1 HI.out.2.1 HI.out.2.2.1 HI.out.2.2.2 rfl (by decide) _ 0 [] rfl (World.ownsRow_made w #[] 0 (Nat.le_refl _) (by decide) (by simp)) p n c cs rfl ?c1 ?c2 ?c3 ?c4 ?c5 ?c6 ?_)
  case c1=>exact HL.out
  case c2=>exact fun j u hj=>a_8 _ (HS.out p rfl j u hj)
  case c3=>exact H1.out
  case c4=>unfold maxLen;omega
  case c5=>omega
  case c6=>simp
  intro v' w1 hown' hgrow _;have hb':=((Below.refl w.heap.size w).alloc (Nat.le_refl _) (.cells #[] 101)).grown hgrow (by simp) (fun r hr=>by cases hr;simp);have ⟨HO,HB⟩:=hh2 hown' hb';clear hown' hb' hgrow
  go_wp2
  go_ret
  exact e_R HO.out HB.out
theorem q_S:(Tryz.prog.info? 55).map (fun i=>(i.zero,i.size,i.bytes))=some (some (.slice none 0 0),1,24):=by kernel_rfl
theorem j_x (a:Option Addr) (n c:Nat) (cs:List Value) (w:World) (hl:cs.length=n*1) (hs:∀ p,a=some p→∀ j u,cs[j]?=some u→w.cell? (p.add j)=some u) (h1:∀ u∈cs,u.oneCell'=true) (ha:a=none→n=0) (hn:n≤1000000) :
  Calls Tryz.prog 86 #[.slice a n c] w (g_X 55 1 n cs w):=by
 obtain ⟨i0,hi,hz0,hz1,hz2⟩:=info_parts q_S;have HI:=N47;have ⟨HL,HS,H1⟩:=hh3 hl hs h1;have q:=fun w=>d_R 28 55 a n c Tryz.underlying28 w
 clear hi hz0 hz1 hz2 hl hs h1
 cases a with
 | none =>
  obtain rfl:n=0:=ha rfl;obtain rfl:cs=[]:=List.eq_nil_of_length_eq_zero (by have:=HL.out;omega);clear ha hn
  go_enter Tryz.func86,Tryz.ntmps86
  exact J67
 | some p =>
  clear ha
  go_enter Tryz.func86,Tryz.ntmps86
  go_wp2_with (at_builtin;refine wpList_append_own _ rfl _ _ 28 rfl w.heap.size 55 i0 (.slice none 0 0) 1 24 Tryz.underlying28 HI.out.1 HI.out.2.1 HI.out.2.2.1 HI.out.2.2.2 rfl (by decide) _ 0 [] rfl (World.ownsRow_made w #[] 0 (Nat.le_refl _) (by decide) (by simp)) p n c cs rfl ?c1 ?c2 ?c3 ?c4 ?c5 ?c6 ?_)
  case c1=>exact HL.out
  case c2=>exact fun j u hj=>a_8 _ (HS.out p rfl j u hj)
  case c3=>exact H1.out
  case c4=>unfold maxLen;omega
  case c5=>omega
  case c6=>simp
  intro v' w1 hown' hgrow _;have hb':=((Below.refl w.heap.size w).alloc (Nat.le_refl _) (.cells #[] 55)).grown hgrow (by simp) (fun r hr=>by cases hr;simp);have ⟨HO,HB⟩:=hh2 hown' hb';clear hown' hb' hgrow
  go_wp2
  go_ret
  exact e_R HO.out HB.out
theorem s_S:(Tryz.prog.info? 46).map (fun i=>(i.zero,i.size,i.bytes))=some (some (.agg thN.toArray),13,136):=by kernel_rfl
theorem k_G (a:Option Addr) (n c:Nat) (cs:List Value) (w:World) (hl:cs.length=n*13) (hs:∀ p,a=some p→∀ j u,cs[j]?=some u→w.cell? (p.add j)=some u) (h1:∀ u∈cs,u.oneCell'=true) (ha:a=none→n=0) (hn:n≤1000000) :
  Calls Tryz.prog 87 #[.slice a n c] w (g_X 46 13 n cs w):=by
 obtain ⟨i0,hi,hz0,hz1,hz2⟩:=info_parts s_S;have HI:=N47;have ⟨HL,HS,H1⟩:=hh3 hl hs h1;have q:=fun w=>d_R 24 46 a n c Tryz.underlying24 w
 clear hi hz0 hz1 hz2 hl hs h1
 cases a with
 | none =>
  obtain rfl:n=0:=ha rfl;obtain rfl:cs=[]:=List.eq_nil_of_length_eq_zero (by have:=HL.out;omega);clear ha hn
  go_enter Tryz.func87,Tryz.ntmps87
  exact J67
 | some p =>
  clear ha
  go_enter Tryz.func87,Tryz.ntmps87
  go_wp2_with (at_builtin;refine wpList_append_own _ rfl _ _ 24 rfl w.heap.size 46 i0 (.agg thN.toArray) 13 136 Tryz.underlying24 HI.out.1 HI.out.2.1 HI.out.2.2.1 HI.out.2.2.2 rfl (by decide) _ 0 [] rfl (World.ownsRow_made w #[] 0 (Nat.le_refl _) (by decide) (by simp)) p n c cs rfl ?c1 ?c2 ?c3 ?c4 ?c5 ?c6 ?_)
  case c1=>exact HL.out
  case c2=>exact fun j u hj=>a_8 _ (HS.out p rfl j u hj)
  case c3=>exact H1.out
  case c4=>unfold maxLen;omega
  case c5=>omega
  case c6=>simp
  intro v' w1 hown' hgrow _;have hb':=((Below.refl w.heap.size w).alloc (Nat.le_refl _) (.cells #[] 46)).grown hgrow (by simp) (fun r hr=>by cases hr;simp);have ⟨HO,HB⟩:=hh2 hown' hb';clear hown' hb' hgrow
  go_wp2
  go_ret
  exact e_R HO.out HB.out
end Go.Proofs.YtogdpojnbgeknaaGreatDoor
