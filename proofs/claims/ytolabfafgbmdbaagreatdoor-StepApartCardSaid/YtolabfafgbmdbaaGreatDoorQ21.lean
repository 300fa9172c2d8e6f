import Derived.Test.YtolabfafgbmdbaaGreatDoorQ17
import Derived.Test.YtolabfafgbmdbaaGreatDoorQ0
import Derived.Test.YtolabfafgbmdbaaGreatDoorQ20
import Derived.Test.YtolabfafgbmdbaaGreatDoorQ6
import Derived.Test.YtolabfafgbmdbaaGreatDoorQ7
import Derived.Test.YtolabfafgbmdbaaGreatDoorQ10
import Derived.StillTailTactics
set_option maxRecDepth 100000
set_option maxHeartbeats 16000000
namespace Go.Proofs.YtolabfafgbmdbaaGreatDoor
open Go.ChangeShapes Go.WideShapes Go.ChangeAt Go.RowKit
open Gen
open Lib (hid)
abbrev woC (L:WoL) (D:Int):List Value:=[.slice L.co.a L.co.n L.co.c,.slice L.ws.a L.ws.n L.ws.c,.slice L.ts.a L.ts.n L.ts.c,.int .i64 D,.slice L.bs.a L.bs.n L.bs.c,.slice L.th.a L.th.n L.th.c,.slice L.ev.a L.ev.n L.ev.c]
theorem b_u (L:WoL) (D:Int):(woC L D).toArray.all (·.oneCell')=true:=by simp [Value.oneCell']
theorem a_E {w:World} {g:Nat} {cs:List Value} (X:a_p w g cs) (ty:TypeId) {d:TypeDesc} (hu:Tryz.prog.underlying ty=some d) (hd:d.isRow=true) (hi:(Tryz.prog.info? ty).map (·.size)=some cs.length) :
  (loadVar ty ⟨g,0,none⟩).run Tryz.prog w=.ok (.agg cs.toArray) w:=run_loadVar_mid w g 0 ty cs d (a_g X) hu hd hi
abbrev woZ:List Value:=[.slice none 0 0,.slice none 0 0,.slice none 0 0,.int .i64 0,.slice none 0 0,.slice none 0 0,.slice none 0 0]
def b_D (Q:Nat→Prop) (X:Wo) (w:World) (e:Ending) (w':World):Prop:=∃ L,e=.returned (woV L X.D)∧RWo Q w' L X∧Below w.heap.size w w'
theorem a_Z {Q:Nat→Prop} {X:Wo} {w w':World} {L:WoL} {v:Value} (hv:v=woV L X.D) (h:RWo Q w' L X) (hb:Below w.heap.size w w'):b_D Q X w (.returned v) w':=by subst hv;exact ⟨L,rfl,h,hb⟩
theorem s_J (L:WoL) (D:Int) (k:Int) (w:World):Calls Tryz.prog 21 #[woV L D,.int .i64 k] w (a_1 (decide (0≤k∧k < L.th.n)) w):=by
 unfold woV
 by_cases h1:0≤k
 ·by_cases h2:k < L.th.n
  ·have HE:=hid (show decide (0≤k∧k < (L.th.n:Int))=true from decide_eq_true ⟨h1,h2⟩)
   go_enter Tryz.func21,Tryz.ntmps21
   go_wp2
   go_ret
   exact a_i HE.out (by go_grown)
  ·have HE:=hid (show decide (0≤k∧k < (L.th.n:Int))=false from decide_eq_false (fun h=>h2 h.2));exact J102
 ·have HE:=hid (show decide (0≤k∧k < (L.th.n:Int))=false from decide_eq_false (fun h=>h1 h.1));exact J102
def WoL.setTh (L:WoL) (a:Option Addr) (n d:Nat):WoL:={ L with th:=⟨a,n,d⟩ }
theorem j_1 {Q:Nat→Prop} {w:World} {L:WoL} {X:Wo} (R:RWo Q w L X) {a:Option Addr} {n d:Nat} {ts:List Thr} (hc:Cap a n d) (V:Vs repTh Q w a n ts):RWo Q w (L.setTh a n d) { X with th:=ts }:=
 ⟨R.co,R.ws,R.ts,R.bs,V,R.ev,R.cco,hc,R.cev⟩
theorem c_V (Q:Nat→Prop) (L:WoL) (X:Wo) (j:Nat) (t:Thr) (fa:Option Addr) (fc:Nat) (qa:Option Addr) (qc:Nat) (w:World) (R:RWo Q w L X) (T:ThQ Q w fa t.fs.length fc qa t.lf.length qc t) (hQ:∀ b,w.heap.size≤b→Q b) (hn:L.th.n≤1000) :
  Calls Tryz.prog 53 #[woV L X.D,.int .i64 j,thV t fa t.fs.length fc qa t.lf.length qc] w (b_D Q (b_k X j t) w):=by
 obtain ⟨D,hD⟩:=mn (X.D);have HD:=hid hD;rw [hD];obtain ⟨tn,htn⟩:=mn (t.fs.length);obtain ⟨tm,htm⟩:=mn (t.lf.length);have HTN:=hid (And.intro htn htm);have ⟨HR,HT,HQ⟩:=hh3 R T hQ;rw [htn,htm];obtain ⟨W,hW⟩:=nm (((w.alloc (Obj.cells (woC L D).toArray 33)).alloc (Obj.cells (thC t fa tn fc qa tm qc).toArray 46)).alloc (Obj.cells woZ.toArray 33));have HX:=N71;have HY:=hid (show a_p W (w.heap.size+1) (thC t fa tn fc qa tm qc) by rw [hW];exact a_s _ (a_e _ _ (by simp)));have HZ:=N83;have HB:=N3;have HSZ:=N124;have HW:=hid hW;obtain ⟨Q1,hQ1⟩:∃ Q1:Nat→Prop,Q1=fun b=>Q b∧(b < w.heap.size∨w.heap.size+3≤b):=⟨_,rfl⟩
 have HQ1:=hid hQ1;have R1:RWo Q1 w L X:=by rw [hQ1];exact a_D (fun b h=>⟨h.1,.inl h.2⟩) (c_r R)
 have T1:ThQ Q1 w fa t.fs.length fc qa t.lf.length qc t:=by rw [hQ1];exact b_s (fun b h=>⟨h.1,.inl h.2⟩) (d_x T)
 have HR1:=hid R1;have h0:=r_M Q1 L.th.a L.th.n L.th.c X.th j t fa fc qa qc W (e_J HB.out R1.th) (a_w (a_B HB.out) T1) (fun b hb=>by rw [hQ1];have:=HSZ.out;exact ⟨hQ b (by omega),.inr (by omega)⟩) hn;rw [htn,htm] at h0;have HC:=hid h0;clear hD htn htm R T hQ hW h0 hQ1 R1 T1 HR HT;unfold woV thV
 go_enter Tryz.func53,Tryz.ntmps53
 go_upto_region 1 with fail
 rw [←HW.out];obtain ⟨k5,f5⟩:=HX.out 5 _ rfl
 go_wp2_with (refine wpList_load_mid rfl 46 _ rfl (w.heap.size+1) 0 rfl (thC t fa tn fc qa tm qc) _ (a_g HY.out) Tryz.underlying46 rfl (by kernel_rfl) ?_)
 refine HC.out.mono ?_;rintro e w1 ⟨a,d,rfl,hc,V,hb1⟩;have X1:=a_h hb1 HX.out;obtain ⟨V5,hV5⟩:=nm (w1.setCell ⟨w.heap.size,5,none⟩ (.slice a L.th.n d))
 have HX5:=hid (show a_p V5 w.heap.size (woC (L.setTh a L.th.n d) D) by
  have:=a_A X1 5 (by simp) (.slice a L.th.n d);rw [←hV5] at this;exact this)
 have HZ5:=hid (show a_p V5 (w.heap.size+2) woZ by rw [hV5];exact a_m (a_h hb1 HZ.out) (by omega) _);have HB5:=hid (show Below w.heap.size w V5 by rw [hV5];exact (a_a HB.out hb1).setCell (p:=⟨w.heap.size,5,none⟩) (Nat.le_refl _) _)
 have HR5:=hid (show RWo Q1 V5 (L.setTh a L.th.n d) (b_k X j t) by
  have hk:Kept Q1 w1 V5:=by rw [hV5];exact a_V w1 _ _ (fun b hb=>by rw [HQ1.out] at hb;show b≠w.heap.size;have:=hb.2;omega)
  have hk0:Kept Q1 w V5:=a_4 (a_B (a_a HB.out hb1)) hk;exact j_1 (X:=X) (a_C hk0 HR1.out) hc (a_z hk V))
 have HV5:=hid hV5;obtain ⟨c5,g5⟩:=X1 5 _ rfl;clear X1 hV5 hc V hb1 HC k5 f5
 go_upto_region 2 with fail
 rw [←HV5.out];clear c5 g5
 go_wp2_with (first | (refine wpList_load_mid rfl 33 _ rfl w.heap.size 0 rfl (woC (L.setTh a L.th.n d) D) _ (a_g HX5.out) Tryz.underlying33 rfl (by kernel_rfl) ?_) | (refine a_d rfl 33 _ _ rfl (w.heap.size+2) (woC (L.setTh a L.th.n d) D).toArray rfl rfl _ HZ5.out rfl (by kernel_rfl) (b_u _ _) ?_;intro U HU))
 have HZ6:=hid (show a_p U (w.heap.size+2) (woC (L.setTh a L.th.n d) D) by rw [HU.out];exact a_q HZ5.out rfl);refine a_X ⟨w.heap.size+2,0,none⟩ rfl rfl rfl (a_E HZ6.out 33 Tryz.underlying33 rfl (by kernel_rfl)) ?_;have hkU:Kept Q1 V5 U:=by rw [HU.out];exact a_u (fun b hb=>by rw [HQ1.out] at hb;have:=hb.2;omega)
 exact a_Z (L:=L.setTh a L.th.n d) (by rw [show (b_k X j t).D=X.D from rfl,HD.out]) (a_D (fun b hb=>by rw [HQ1.out] at hb;exact hb.1) (a_C hkU HR5.out)) (by rw [HU.out];exact a_j (by omega) HB5.out)
theorem b_4 (Q:Nat→Prop) (g b:Nat) (L:WoL) (X:Wo) (k:Nat) (w:World) (H:Wk Q w g b L X k) :
  Calls Tryz.prog 78 #[.pointer (some ⟨g,0,none⟩)] w (fun e w'=>e=.returned (.pointer (some ⟨b,k*13,none⟩))∧∃ m,w'=w.drewN m):=by
 exact J66
theorem o_D {Q:Nat→Prop} {w:World} {b o:Nat} {i:Ins} (h:At repIns Q w b o i):w.cell? ⟨b,o,none⟩=some (.int .i64 i.1)∧w.cell? ⟨b,o+1,none⟩=some (.int .i64 i.2.1)∧w.cell? ⟨b,o+2,none⟩=some (.int .i64 i.2.2.1)∧w.cell? ⟨b,o+3,none⟩=some (.int .i64 i.2.2.2):=by
 obtain ⟨cs,h1,h2⟩:=h;have h1:cs=[.int .i64 i.1,.int .i64 i.2.1,.int .i64 i.2.2.1,.int .i64 i.2.2.2]:=h1;subst h1;exact ⟨h2 0 _ rfl,h2 1 _ rfl,h2 2 _ rfl,h2 3 _ rfl⟩
def l_B (i:Ins) (b:Bool) (w:World) (e:Ending) (w':World):Prop:=e=.returned (.tuple #[.agg #[.int .i64 i.1,.int .i64 i.2.1,.int .i64 i.2.2.1,.int .i64 i.2.2.2],.bool b])∧Below w.heap.size w w'
abbrev inC (i:Ins):List Value:=[.int .i64 i.1,.int .i64 i.2.1,.int .i64 i.2.2.1,.int .i64 i.2.2.2]
theorem q_7 (Q:Nat→Prop) (g b:Nat) (L:WoL) (X:Wo) (k:Nat) (w:World) (H:Wk Q w g b L X k) (hp0:0≤(thW X k).pc) :
  Calls Tryz.prog 79 #[.pointer (some ⟨g,0,none⟩)] w (l_B (inW X (thW X k).pc) (decide ((thW X k).pc < X.code.length)) w):=by
 obtain ⟨W,hW⟩:=nm (w.alloc (Obj.cells (inC (0,0,0,0)).toArray 66));have HR:=N241;have HB:=N3;have HH:=hid (d_z HB.out H);have HC:=N57;obtain ⟨fa,fc,la,lc,-,ht⟩:=c_5 HH.out;obtain ⟨t0,-⟩:=ht 0 _ rfl;obtain ⟨x0,-⟩:=HH.out.x 0 _ rfl;have HW:=hid hW;obtain ⟨pc,hpc⟩:=mn ((thW X k).pc);rw [hpc] at t0 hp0;rw [hpc];have HL:=hid (show X.code.length=L.co.n from H.co.1);obtain ⟨i,hi⟩:=mn (inW X pc);rw [hi];have HI:=hid hi;obtain ⟨d,hd⟩:=mn (decide (pc < X.code.length));rw [hd];have HDD:=hid hd;clear hW H hpc ht hi hd
 go_enter Tryz.func79,Tryz.ntmps79
 go_upto_region 1 with fail
 rw [←HW.out]
 go_wp2_with fail
 refine HC.out.mono ?_;rintro e1 w1 ⟨rfl,m,rfl⟩;clear HC;have t1:W.cell? ⟨b,k*13,none⟩=some (.int .i64 pc):=t0;exact J15
def r_V (l:List Int):Bool:=l.all (fun n=>decide (n=0))
theorem q_8 (v:Int) (w:World):Calls Tryz.prog 81 #[.int .i64 v] w (g_X (v != 0) w):=by
 go_enter Tryz.func81,Tryz.ntmps81
 go_wp2
 go_ret
 exact ⟨rfl,rfl⟩
def t_v (l:List Int) (w:World) (e:Ending) (w':World):Prop:=∃ z,e=.returned (.int .i64 z)∧decide (0≤z)=!r_V l∧Below w.heap.size w w'
def ZTo (l:List Int) (k:Nat):Prop:=∀ i v,i < k→l[i]?=some v→v=0
theorem r_P {l:List Int} {k:Nat} {v:Int} (h:ZTo l k) (hv:l[k]?=some v) (h0:v=0):ZTo l (k+1):=fun i x hi hx=>by
 by_cases e:i=k
 ·subst e;rw [hv] at hx;cases hx;exact h0
 ·exact h i x (by omega) hx
theorem t_q {l:List Int} {n:Nat} (hn:l.length=n) (h:ZTo l n):r_V l=true:=by
 rw [r_V,List.all_eq_true];intro v hv;obtain ⟨i,hi,rfl⟩:=List.mem_iff_getElem.1 hv;exact decide_eq_true (h i _ (by omega) (List.getElem?_eq_getElem hi))
theorem zNo {l:List Int} {k:Nat} {v:Int} (hv:l[k]?=some v) (h0:v≠0):r_V l=false:=by
 rw [r_V,List.all_eq_false];exact ⟨v,List.mem_of_getElem? hv,by simpa using h0⟩
theorem m_T (a:Option Addr) (n c:Nat) (l:List Int) (w:World) (S:Vs repInt Any w a n l) (hn:n≤1000) :
  Calls Tryz.prog 111 #[.slice a n c,.func (.func 81) #[] #[]] w (t_v l w):=by
 go_enter Tryz.func111,Tryz.ntmps111
 go_wp2
 go_loopw [5,8] (fun _ i wr=>∃ k:Nat,k≤n∧i=.int .i64 k∧Hid (ZTo l k)∧wr=w) (fun _ i _=>n - (intOf i).toNat)
 case atStart=>exact ⟨0,by omega,rfl,fun i v hi=>by omega,rfl⟩
 case round =>
  obtain ⟨k,hk,rfl,hz,rfl⟩:=hrel
  by_cases hlt:k < n
  ·obtain ⟨b,o,v,rfl,hv,hc⟩:=h_e S hlt;have i1:(0:Int)≤k:=by omega
   have i2:(k:Int) < n:=by omega
   have hwk:=N174;have HC:=hid (q_8 v wr)
   by_cases h0:v=0
   ·have HZ:=hid (r_P hz.out hv h0);subst h0;clear hv
    go_wp2_with fail
    refine HC.out.mono ?_;rintro e1 w1 ⟨rfl,rfl⟩;clear HC
    go_wp2_with fail
    go_roundw
    case rel=>exact ⟨k+1,by omega,by go_num,HZ.out,trivial⟩
    case measure=>simp [intOf];omega
   ·have HZ:=hid (zNo hv h0);have hb:(v != 0)=true:=by simpa using h0
    rw [hb] at HC;clear hv hb h0
    go_wp2_with fail
    refine HC.out.mono ?_;rintro e1 w1 ⟨rfl,rfl⟩;clear HC
    go_wp2_with fail
    go_ret
    exact ⟨k,rfl,by rw [HZ.out];simp,Below.refl _ _⟩
  ·obtain rfl:k=n:=by omega
   have HZ:=hid (t_q S.1 hz.out)
   go_wp2_with fail
   go_ret
   exact ⟨-1,rfl,by rw [HZ.out];rfl,Below.refl _ _⟩
theorem q_i (a:Option Addr) (n c:Nat) (l:List Int) (w:World) (S:Vs repInt Any w a n l) (hn:n≤1000) :
  Calls Tryz.prog 80 #[.slice a n c,.func (.func 81) #[] #[]] w (a_1 (!r_V l) w):=by
 have HC:=hid (m_T a n c l w S hn);clear S
 go_enter Tryz.func80,Tryz.ntmps80
 go_wp2_with fail
 refine HC.out.mono ?_;rintro e1 w1 ⟨z,rfl,hz,hb⟩;have ⟨HZ,HB⟩:=hh2 hz hb;clear HC hz hb
 go_wp2_with fail
 go_ret
 exact a_i HZ.out.symm HB.out
def j_o (X:Wo) (t:Thr) (i:Ins):Bool:=decide (a_I X.ws X.ts (rgt t i.2.2.1)≠0)||decide (b_M X.ws X.ts (rgt t i.2.2.1)≠rgt t i.2.1)
theorem s_h {w:World} {g:Nat} {L:WoL} {D k:Int} (h:a_p w g (wkC L D k)):w.rangeAt g 1 [.slice L.ws.a L.ws.n L.ws.c,.slice L.ts.a L.ts.n L.ts.c]:=fun j v hj=>by
 match j,hj with
 | 0,hj=>exact (h 1 v hj).1
 | 1,hj=>exact (h 2 v hj).1
theorem p_T {w:World} {g:Nat} {L:WoL} {D k:Int} (h:a_p w g (wkC L D k)):w.rangeAt g 1 [.slice L.ws.a L.ws.n L.ws.c,.slice L.ts.a L.ts.n L.ts.c,.int .i64 D,.slice L.bs.a L.bs.n L.bs.c]:=fun j v hj=>by
 match j,hj with
 | 0,hj=>exact (h 1 v hj).1
 | 1,hj=>exact (h 2 v hj).1
 | 2,hj=>exact (h 3 v hj).1
 | 3,hj=>exact (h 4 v hj).1
theorem f_o {Q:Nat→Prop} {w u:World} {a:Option Addr} {n:Nat} {zs:List Int} (hu:Below w.heap.size w u) (h:SlP Q w a n zs):Sl u a n zs:=(a_r (a_B hu) h).sl
def t_B (h g:Nat) (L:WoL) (jb:Nat) (vb lv le:Int):b_n:=[isV 0 (.pointer (some ⟨g,0,none⟩)),isV 1 (.pointer (some ⟨g,0,none⟩)),isV 2 (.pointer (some ⟨g,0,none⟩)),isV 3 (.pointer (some ⟨g,1,none⟩)),isV 4 (.pointer (some ⟨g,1,none⟩)),isV 5 (.agg #[.slice L.ws.a L.ws.n L.ws.c,.slice L.ts.a L.ts.n L.ts.c]),isV 6 (.pointer (some ⟨h,2,none⟩)),isV 7 (.int .i64 jb),isV 8 (.pointer (some ⟨h+1,jb,none⟩)),isV 9 (.int .i64 vb),isV 10 (.tuple #[.int .i64 lv,.int .i64 le]),isV 11 (.tuple #[.int .i64 lv,.int .i64 le]),isV 12 (.int .i64 lv),isV 13 (.int .i64 le),isV 14 (.int .i64 lv),isV 15 (.int .i64 le)]
theorem o_n (h g:Nat) (L:WoL) (jb:Nat) (vb lv le:Int):c_g (t_B h g  L  jb  vb lv le ):=a_c<|a_c<|a_c<|a_c<|a_c<|a_c<|a_c<|a_c<|a_c<|a_c<|a_c<|a_c<|a_c<|a_c<|a_c<|a_c<|b_m
end Go.Proofs.YtolabfafgbmdbaaGreatDoor
namespace Go.Proofs.YtolabfafgbmdbaaGreatDoor
open Go.ChangeShapes Go.WideShapes Go.ChangeAt Go.RowKit
open Gen
theorem q_P {X:Wo} {pc:Int} (h0:0≤pc) (h1:pc < X.code.length):inW X pc∈X.code:=by
 exact J109
end Go.Proofs.YtolabfafgbmdbaaGreatDoor
namespace Go.Proofs.YtolabfafgbmdbaaGreatDoor
open Go.ChangeShapes Go.WideShapes Go.ChangeAt Go.RowKit
open Gen
open Lib (hid)
structure Wr (w:World) (g b o0:Nat) (L:WoL) (X:Wo) (k:Nat):Prop where
 x:a_p w g (wkC L X.D k)
 hb:L.th.a=some ⟨b,o0,none⟩
 th:Vs repTh Any w L.th.a L.th.n X.th
 co:Vs repIns Any w L.co.a L.co.n X.code
 ws:SlP Any w L.ws.a L.ws.n X.ws
 ts:SlP Any w L.ts.a L.ts.n X.ts
 bs:BlP Any w L.bs.a L.bs.n X.bs
 hk:k < X.th.length
 hn:X.th.length=L.th.n
theorem t_p {w w':World} {g b o0:Nat} {L:WoL} {X:Wo} {k:Nat} (hB:Below w.heap.size w w') (H:Wr w g b o0 L X k):Wr w' g b o0 L X k:=by
 have hK:=a_B (Q:=Any) hB;exact ⟨a_h hB H.x,H.hb,a_z hK H.th,a_z hK H.co,a_r hK H.ws,a_r hK H.ts,a_G hK H.bs,H.hk,H.hn⟩
theorem p_W {w:World} {g b o0:Nat} {L:WoL} {X:Wo} {k:Nat} (H:Wr w g b o0 L X k):∃ fa fc la lc,ThQ Any w fa (thW X k).fs.length fc la (thW X k).lf.length lc (thW X k) ∧
  ∀ j v,(thC (thW X k) fa (thW X k).fs.length fc la (thW X k).lf.length lc)[j]?=some v→w.cell? ⟨b,o0+k*13+j,none⟩=some v∧True:=by
 obtain ⟨b1,o1,t,fa,fc,la,lc,e,ht,-,T,h⟩:=d_d H.th (k:=k) (by have:=H.hk;have:=H.hn;omega);rw [H.hb] at e
 cases e
 rw [j_5 H.hk] at ht
 cases ht
 exact ⟨fa,fc,la,lc,T,fun j v hj=>⟨h j v hj,trivial⟩⟩
theorem h_v (g b o0:Nat) (L:WoL) (X:Wo) (k:Nat) (w:World) (H:Wr w g b o0 L X k) :
  Calls Tryz.prog 78 #[.pointer (some ⟨g,0,none⟩)] w (fun e w'=>e=.returned (.pointer (some ⟨b,o0+k*13,none⟩))∧∃ m,w'=w.drewN m):=by
 exact J66
theorem o_1 (g b o0:Nat) (L:WoL) (X:Wo) (k:Nat) (w:World) (H:Wr w g b o0 L X k) (hp0:0≤(thW X k).pc) :
  Calls Tryz.prog 79 #[.pointer (some ⟨g,0,none⟩)] w (l_B (inW X (thW X k).pc) (decide ((thW X k).pc < X.code.length)) w):=by
 obtain ⟨W,hW⟩:=nm (w.alloc (Obj.cells (inC (0,0,0,0)).toArray 66));have HR:=N241;have HB:=N3;have HH:=hid (t_p HB.out H);have HC:=hid (h_v g b o0 L X k W HH.out);obtain ⟨fa,fc,la,lc,-,ht⟩:=p_W HH.out;obtain ⟨t0,-⟩:=ht 0 _ rfl;obtain ⟨x0,-⟩:=HH.out.x 0 _ rfl;have HW:=hid hW;obtain ⟨pc,hpc⟩:=mn ((thW X k).pc);rw [hpc] at t0 hp0;rw [hpc];have HL:=hid (show X.code.length=L.co.n from H.co.1);obtain ⟨i,hi⟩:=mn (inW X pc);rw [hi];have HI:=hid hi;obtain ⟨d,hd⟩:=mn (decide (pc < X.code.length));rw [hd];have HDD:=hid hd;clear hW H hpc ht hi hd
 go_enter Tryz.func79,Tryz.ntmps79
 go_upto_region 1 with fail
 rw [←HW.out]
 go_wp2_with fail
 refine HC.out.mono ?_;rintro e1 w1 ⟨rfl,m,rfl⟩;clear HC;have t1:W.cell? ⟨b,o0+k*13,none⟩=some (.int .i64 pc):=t0;exact J15
theorem k_u (g b o0:Nat) (L:WoL) (X:Wo) (k:Nat) (i:Ins) (w:World) (H:Wr w g b o0 L X k) (ha:0≤i.2.1∧i.2.1≤7) (hb:0≤i.2.2.1∧i.2.2.1≤7) (hw:(Lit.int .i64 (rgt (thW X k) i.2.2.1)).wf=true) :
  Calls Tryz.prog 82 #[.pointer (some ⟨g,0,none⟩),.agg #[.int .i64 i.1,.int .i64 i.2.1,.int .i64 i.2.2.1,.int .i64 i.2.2.2]] w (a_1 (j_o X (thW X k) i) w):=by
 obtain ⟨o,ra,rb,c⟩:=i;simp only at ha hb hw ⊢;obtain ⟨ja,rfl⟩:∃ j:Nat,ra=j:=⟨ra.toNat,by omega⟩;obtain ⟨jb,rfl⟩:∃ j:Nat,rb=j:=⟨rb.toNat,by omega⟩;obtain ⟨y,hy⟩:=mn (j_o X (thW X k) (o,(ja:Int),(jb:Int),c));rw [hy];simp only [j_o,rgt,Int.toNat_natCast] at hy hw;obtain ⟨W,hW⟩:=nm (w.alloc (Obj.cells (inC (o,(ja:Int),(jb:Int),c)).toArray 66));have HI:=hid (show a_p W w.heap.size (inC (o,(ja:Int),(jb:Int),c)) by rw [hW];exact a_e _ _ rfl);have HB:=N3;have HSZ:=N150;have HH:=hid (t_p HB.out H);have HC:=hid (h_v g b o0 L X k W HH.out);obtain ⟨fa,fc,la,lc,-,ht⟩:=p_W HH.out;obtain ⟨t,htt⟩:=mn (thW X k);rw [htt] at ht hy hw;obtain ⟨va,hva⟩:=mn (t.r ja);obtain ⟨vb,hvb⟩:=mn (t.r jb)
 have HT:=hid (show W.rangeAt b (o0+k*13+1) (rgC t.r) from fun j v hj=>by
  have h1:=N148;rw [Nat.add_assoc];refine (ht (1+j) v ?_).1;rw [←hj]
  rcases (show j=0∨j=1∨j=2∨j=3∨j=4∨j=5∨j=6∨j=7 by omega) with rfl | rfl | rfl | rfl | rfl | rfl | rfl | rfl <;> rfl)
 have ⟨HW,HY,HWF,HVA,HVB⟩:=hh5 hW hy hw hva hvb;clear hW H ht hy hw hva hvb
 go_enter Tryz.func82,Tryz.ntmps82
 go_upto_region 1 with fail
 rw [←HW.out]
 go_wp2_with fail
 refine HC.out.mono ?_;rintro e1 w1 ⟨rfl,m,hm⟩;have HB1:=N216;have HZ1:=hid (show w1.heap.size=w.heap.size+1 by rw [hm,←HSZ.out];rfl);have HT1:=hid (show w1.rangeAt b (o0+k*13+1) (rgC t.r) from fun j v hj=>a_t HB1.out (HT.out j v hj));clear HC hm HT
 go_upto_region 2 with (first | (refine wpList_load_mid rfl 43 _ rfl b (o0+k*13+1) rfl (rgC t.r) _ HT1.out Tryz.underlying43 rfl (by kernel_rfl) ?_) | (refine a_d rfl 43 _ _ rfl w1.heap.size (rgC t.r).toArray rfl rfl _ (a_e rgZ w1.heap.size rfl) rfl (by kernel_rfl) (by simp [Value.oneCell']) ?_;intro V HV))
 have HR2:=N206;have HB2:=N116;have HI2:=hid (a_h HB2.out HI.out);have HH2:=hid (t_p HB2.out HH.out);rw [HZ1.out] at HR2 ⊢;have HL:=hid (fun (u:World) (hu:Below V.heap.size V u)=>g_K L.ws.a L.ts.a L.ws.n L.ws.c L.ts.n L.ts.c X.ws X.ts vb u (f_o hu HH2.out.ws) (f_o hu HH2.out.ts) (by rw [←HVB.out];exact HWF.out));obtain ⟨lv,hlv⟩:=mn (b_M X.ws X.ts vb);obtain ⟨le,hle⟩:=mn (a_I X.ws X.ts vb);rw [hlv,hle] at HL;have HYV:=hid (show (decide (le≠0)||decide (lv≠va))=y by rw [←HY.out];subst hlv hle;have ha:=HVA.out;have hb:=HVB.out;subst ha hb;rfl);obtain ⟨x1,-⟩:=HH2.out.x 1 _ rfl;obtain ⟨x2,-⟩:=HH2.out.x 2 _ rfl;obtain ⟨q2,-⟩:=HI2.out 2 _ rfl;obtain ⟨q1,-⟩:=HI2.out 1 _ rfl;have i1:(0:Int)≤jb:=by omega
 have i2:(jb:Int) < 8:=by omega
 have i3:(0:Int)≤ja:=by omega
 have i4:(ja:Int) < 8:=by omega
 obtain ⟨r1,-⟩:=HR2.out jb _ (b_N t.r jb (by omega) _);obtain ⟨r2,-⟩:=HR2.out ja _ (b_N t.r ja (by omega) _);rw [HVA.out] at r2;rw [HVB.out] at r1;clear hlv hle HV HR2;have hG:=o_n w.heap.size g L jb vb lv le
 go_upto_region 2 with fail
 refine d_f [some 14,some 15,some 16,some 17,some 18,some 19,some 20,some 21,some 22,some 23,some 24,some 13,some 25,some 26,some 6,some 7] (fun w'=>Below V.heap.size V w') (t_B w.heap.size g L jb vb lv le) 100 100 (fun _ _ _=>True) (by kernel_rfl) (by kernel_rfl) (by decide) rfl ((Below.refl _ _).drew) ?_ ?_
 ·show StepsL _ _ _ _ _ _ _
  refine InvD.c (fun _ _ w1 C _ hK=>oR C hK (h:=by simp [execOp,go_sem,C.o 0 (.pointer (some ⟨g,0,none⟩))])) ?_;refine InvD.c (fun _ _ w1 C _ hK=>oR C hK (h:=by simp [execOp,go_sem,C.i 0])) ?_;refine InvD.c (fun _ _ w1 C _ hK=>oR C hK (h:=by simp [execOp,go_sem,C.i 1])) ?_;refine InvD.c (fun _ _ w1 C _ hK=>oR C hK (h:=by simp [execOp,go_sem,C.i 2])) ?_;refine InvD.c (fun _ _ w1 C _ hK=>oR C hK (h:=by simp [execOp,go_sem,C.i 3])) ?_;refine InvD.c (fun a1 vals w1 C K hK=>?_) ?_
  ·have e0:=C.i 4;exact J79
  refine InvD.c (fun _ _ w1 C _ hK=>oR C hK (h:=by simp [execOp,go_sem,C.o 3 (.pointer (some ⟨w.heap.size,0,none⟩))])) ?_;refine InvD.c (fun _ _ w1 C _ hK=>oR C hK (h:=by simp [execOp,go_sem,C.i 6,a_t C.base q2])) ?_;refine InvD.c (fun _ _ w1 C _ hK=>oR C hK (h:=by simp [execOp,go_sem,C.o 5 (.pointer (some ⟨w.heap.size+1,0,none⟩)),C.i 7,i1,i2])) ?_;refine InvD.c (fun _ _ w1 C _ hK=>oR C hK (h:=by simp [execOp,go_sem,C.i 8,a_t C.base r1])) ?_;refine InvD.c (fun a1 vals w1 C K hK=>?_) ?_
  ·have e0:=C.i 5;have e1:=C.i 9;rw [a_K] at e0 e1;refine a_f rfl (a_N _ _ _ rfl 112 rfl [.agg #[.slice L.ws.a L.ws.n L.ws.c,.slice L.ts.a L.ts.n L.ts.c],.int .i64 vb] (by simp only [List.map_cons,List.map_nil,e0,e1]) (by kernel_rfl) ((HL.out w1 C.base).mono ?_));rintro e9 w2 ⟨rfl,hb2⟩;exact J57
  refine InvD.c (fun _ _ w1 C _ hK=>oR C hK (h:=by simp [execOp,go_sem,C.i 10])) ?_;refine InvD.c (fun _ _ w1 C _ hK=>oR C hK (h:=by simp [execOp,go_sem,C.i 11])) ?_;refine InvD.c (fun _ _ w1 C _ hK=>oR C hK (h:=by simp [execOp,go_sem,C.i 11])) ?_;refine InvD.c (fun _ _ w1 C _ hK=>oR C hK (h:=by simp [execOp,go_sem,C.i 12])) ?_;refine InvD.c (fun _ _ w1 C _ hK=>oR C hK (h:=by simp [execOp,go_sem,C.i 13])) ?_;exact StepsL.nil
 ·intro vals w1 hb hv hbo;have y10:vals 14=.int .i64 lv:=List.head_eq_of_cons_eq (hv 14 (by decide));have y11:vals 15=.int .i64 le:=List.head_eq_of_cons_eq (hv 15 (by decide));simp only [c_L,Act.put,sA,sB,sC,y10,y11];have q1':=a_t hb q1;have r2':=a_t hb r2;have HB3:=hid (show Below w.heap.size w w1 from a_a HB.out (a_a HB2.out hb));clear hb hv hbo y10 y11 HL x1 x2 q1 q2 r1 r2 hG
  by_cases e0:le=0
  ·subst e0;have HYW:=hid (show (lv != va)=y by rw [←HYV.out];by_cases e:lv=va <;> simp [e])
   go_wp2_with fail
   go_ret
   exact a_i HYW.out.symm HB3.out
  ·have hk0:(le != 0)=true:=by simpa using e0
   go_wp2_with fail
   go_ret
   exact a_i (s:=true) (by rw [←HYV.out];simp [e0]) HB3.out
theorem q_u (g b o0:Nat) (L:WoL) (X:Wo) (k:Nat) (w:World) (H:Wr w g b o0 L X k) (hrw:b_e X=true) (hwf:∀ j,j < 8→(Lit.int .i64 ((thW X k).r j)).wf=true) :
  Calls Tryz.prog 39 #[.pointer (some ⟨g,0,none⟩)] w (a_1 (k_i X k) w):=by
 obtain ⟨y,hy⟩:=mn (k_i X k);rw [hy];obtain ⟨hrc,hrm,hrl,hro⟩:=a_O hrw
 have HCI:=hid (show ∀ i∈X.code,c_Q i X.code.length=true by
  simp only [b_8,Bool.and_eq_true,decide_eq_true_eq,List.all_eq_true] at hrc;exact hrc.2)
 have hrt:a_Q (thW X k)=true:=by
  have h:=hro _ (List.mem_of_getElem? (j_5 H.hk));simp only [e_q,Bool.and_eq_true] at h;exact h.1
 have hpc0:0≤(thW X k).pc∧(thW X k).pc≤1000:=by
  simp only [a_Q,Bool.and_eq_true,decide_eq_true_eq] at hrt;exact hrt.1.1.1
 have hlf8:(thW X k).lf.length≤8:=(d_m hrt).2;obtain ⟨D,hD⟩:=mn (X.D);obtain ⟨bb,bo,q,c,hba,hbc,-,-⟩:=f_m H.bs (i:=k) (by have:=H.bs.1;have:=H.hk;omega);obtain ⟨bl,hbl⟩:=mn ((X.bs.getD k []).length);have HBL:=hid (show (bfW X k).length=bl from hbl);rw [hbl] at hbc;obtain ⟨x4,-⟩:=H.x 4 _ rfl;obtain ⟨x7,-⟩:=H.x 7 _ rfl;rw [hba] at x4;have i1:(0:Int)≤k:=by omega
 have i2:(k:Int) < L.bs.n:=by have:=H.bs.1;have:=H.hk;omega
 obtain ⟨fa,fc,la,lc,TQ,ht⟩:=p_W H;obtain ⟨t10,-⟩:=ht 10 _ rfl;have q:=fun (d:Nat)=>h_v g b o0 L X k (w.drewN d) (t_p (below_drewN (Below.refl _ _) d) H)
 have ⟨HH,HRW,HWF,HPC,HLF⟩:=hh5 H hrw hwf hpc0 hlf8;have HN:=hid (fun (u:World) (hu:Below w.heap.size w u)=>o_1 g b o0 L X k u (t_p hu H) hpc0.1);have ⟨HT,HTQ⟩:=hh2 ht TQ;obtain ⟨t,htt⟩:=mn (thW X k);rw [htt] at t10 HN HT HTQ HWF HPC HLF;have HTT:=hid htt;have HY:=hid (show p_Z X t (bfW X k)=y by rw [←hy,k_i,htt]);have HD:=hid hD;clear hy hrc hrm hrl hro hrt hpc0 hlf8 hD hba hbl ht htt H hrw hwf TQ
 go_enter Tryz.func39,Tryz.ntmps39
 go_upto_region 1 with fail
 go_quiet ((go_at_call 78;exact Calls.quiet_of (q _)))
 clear q x4 hbc x7;have t10:(w.drewN nq).cell? ⟨b,o0+k*13+10,none⟩=_:=t10;have HB0:=hid (show Below w.heap.size w (w.drewN nq) from below_drewN (Below.refl _ _) nq);obtain ⟨W,hW⟩:=nm (w.drewN nq);rw [←hW] at t10 HB0 ⊢;clear hW;have HH0:=hid (t_p HB0.out HH.out)
 by_cases st0:t.st=0
 ·have hs0:(t.st != 0)=false:=by simp [st0]
  have HST:=hid st0;clear st0;have HC:=hid (HN.out W HB0.out);clear HN
  go_wp2_with fail
  refine HC.out.mono ?_;clear HC;rintro e1 w1 ⟨rfl,hb1⟩;have HB1:=hid (a_a HB0.out hb1);clear hb1 t10 hs0;obtain ⟨i,hi⟩:=mn (inW X t.pc);rw [hi];have HI:=hid hi;obtain ⟨d,hd⟩:=mn (decide (t.pc < X.code.length));rw [hd];have HDD:=hid hd;clear hi hd
  go_upto_region 5 with (refine a_d rfl 66 _ _ rfl w1.heap.size (inC i).toArray rfl rfl _ (a_e (inC (0,0,0,0)) w1.heap.size rfl) rfl (by kernel_rfl) (by simp [Value.oneCell']) ?_;intro U HU)
  have HIU:=hid (show a_p U w1.heap.size (inC i) by rw [HU.out];exact a_q (a_e (inC (0,0,0,0)) _ rfl) rfl);have HBU:=N114;have HHU:=hid (t_p HBU.out HH.out);clear HU
  cases d with
  | false =>
   have HYV:=hid (show true=y by
    rw [←HY.out,p_Z,if_neg (by rw [HST.out];simp),if_pos (by have:=of_decide_eq_false HDD.out;omega)])
   go_wp2_with fail
   go_ret
   exact a_i (s:=true) HYV.out.symm HBU.out
  | true =>
   have HYI:=hid (show m_J X t (bfW X k) i=y by
    rw [←HY.out,p_Z,if_neg (by rw [HST.out];simp),if_neg (by have:=of_decide_eq_true HDD.out;omega),HI.out])
   have HMI:=hid (show c_Q i X.code.length=true from HCI.out _ (by rw [←HI.out];exact q_P HPC.out.1 (of_decide_eq_true HDD.out)));obtain ⟨op,ra,rb,rc⟩:=i;obtain ⟨q0,-⟩:=HIU.out 0 _ rfl;obtain ⟨x3,-⟩:=HHU.out.x 3 _ rfl;rw [HD.out] at x3
   by_cases h17:op=17
   ·subst h17;have HYV:=hid (show decide (D=0∨(bl:Int) < D)=y by rw [←HYI.out,m_J,if_pos rfl,HBL.out,HD.out])
    by_cases hD0:D=0
    ·have hd0:(D==0)=true:=by simpa using hD0
     have HYW:=hid (show true=y by rw [←HYV.out,decide_eq_true (.inl hD0)]);clear hD0
     go_wp2_with fail
     go_ret
     exact a_i (s:=true) HYW.out.symm HBU.out
    ·have hd0:(D==0)=false:=by simpa using hD0
     have HYW:=hid (show decide ((bl:Int) < D)=y by
      rw [←HYV.out]
      by_cases e:(bl:Int) < D
      ·rw [decide_eq_true e,decide_eq_true (.inr e)]
      ·rw [decide_eq_false e,decide_eq_false (fun h=>h.elim hD0 e)])
     clear hD0
     go_wp2_with fail
     go_ret
     exact a_i HYW.out.symm HBU.out
   ·by_cases hf:op=18∨op=19∨op=20∨op=21
    ·have HYV:=hid (show decide (bl=0)=y by rw [←HYI.out,m_J,if_neg h17,if_pos hf,HBL.out])
     have HYW:=hid (show ((bl:Int)==0)=y by
      rw [←HYV.out]
      by_cases e:bl=0
      ·subst e;simp
      ·rw [decide_eq_false e];simp;omega)
     rcases hf with rfl | rfl | rfl | rfl
     ·exact J90
     ·exact J90
     ·exact J90
     ·exact J90
    ·by_cases h22:op=22
     ·subst h22;have HYV:=hid (show r_V t.lf=y by rw [←HYI.out,m_J,if_neg (by simp),if_neg (by simp),if_pos rfl];rfl);have HTU:=hid (fun j v hj=>a_t HBU.out (HT.out j v hj).1);have t12:=HTU.out 12 _ rfl;have HC:=hid (q_i la t.lf.length lc t.lf U (d_7 (a_z (a_B HBU.out) HTQ.out.lf)) (by have:=HLF.out;omega));obtain ⟨lm,hlm⟩:=mn (t.lf.length);rw [hlm] at t12 HC;obtain ⟨az,haz⟩:=mn (r_V t.lf);rw [haz] at HC HYV;clear hlm haz
      go_wp2_with fail
      refine HC.out.mono ?_;clear HC;rintro e2 w2 ⟨rfl,hb2⟩;have HB2:=hid (a_a HBU.out hb2);clear hb2
      go_wp2_with fail
      go_ret
      exact a_i (by rw [←HYV.out]) HB2.out
     ·by_cases h23:op=23
      ·subst h23;obtain ⟨ha,hb,-⟩:=c_8 HMI.out (by simp);simp only at ha hb;have HYV:=hid (show (decide (bl=0)&&j_o X t (23,ra,rb,rc))=y by rw [←HYI.out,m_J,if_neg (by simp),if_neg (by simp),if_neg (by simp),if_pos rfl,HBL.out];rfl)
       by_cases hb0:bl=0
       ·have HYW:=hid (show j_o X t (23,ra,rb,rc)=y by rw [←HYV.out,decide_eq_true hb0,Bool.true_and])
        have HC0:=k_u g b o0 L X k (23,ra,rb,rc) U HHU.out ha hb (by
         obtain ⟨j,hj⟩:∃ j:Nat,rb=j:=⟨rb.toNat,by omega⟩;subst hj;rw [HTT.out,rgt,Int.toNat_natCast];exact HWF.out j (by omega))
        rw [HTT.out,HYW.out] at HC0;have HC:=hid HC0;obtain ⟨q1,-⟩:=HIU.out 1 _ rfl;obtain ⟨q2,-⟩:=HIU.out 2 _ rfl;obtain ⟨q3,-⟩:=HIU.out 3 _ rfl;clear HC0 ha hb;subst hb0
        go_wp2_with fail
        refine HC.out.mono ?_;clear HC;rintro e2 w2 ⟨rfl,hb2⟩;have HB2:=hid (a_a HBU.out hb2);clear hb2
        go_wp2_with fail
        go_ret
        exact a_i rfl HB2.out
       ·have HYW:=hid (show false=y by rw [←HYV.out,decide_eq_false hb0,Bool.false_and]);have hk0:((bl:Int)==0)=false:=by simp;omega
        clear hb0 ha hb
        go_wp2_with fail
        go_ret
        exact a_i (s:=false) HYW.out.symm HBU.out
      ·have HYV:=hid (show true=y by rw [←HYI.out,m_J,if_neg h17,if_neg hf,if_neg h22,if_neg h23]);have q17:(op==17)=false:=by simp;omega
       have q18:(op==18)=false:=by simp;omega
       have q19:(op==19)=false:=by simp;omega
       have q20:(op==20)=false:=by simp;omega
       have q21:(op==21)=false:=by simp;omega
       have q22:(op==22)=false:=by simp;omega
       have q23:(op==23)=false:=by simp;omega
       clear h17 hf h22 h23
       go_wp2_with fail
       go_ret
       exact a_i (s:=true) HYV.out.symm HBU.out
 ·have hs0:(t.st != 0)=true:=by simpa using st0
  have HYV:=hid (show false=y by rw [←HY.out,p_Z,if_pos st0]);clear HN
  go_wp2_with fail
  go_ret
  exact a_i (s:=false) HYV.out.symm HB0.out
end Go.Proofs.YtolabfafgbmdbaaGreatDoor
