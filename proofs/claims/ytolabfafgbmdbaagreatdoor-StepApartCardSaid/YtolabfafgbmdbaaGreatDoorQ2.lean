import Derived.Test.YtolabfafgbmdbaaGreatDoorQ1
import Derived.Deep.DeepCutAuto
import Derived.Test.YtolabfafgbmdbaaGreatDoorQ0
import Derived.Deep.RegionLaw
set_option maxRecDepth 100000
set_option maxHeartbeats 16000000
namespace Go.Proofs.YtolabfafgbmdbaaGreatDoor
open Go.ChangeShapes Go.WideShapes Go.ChangeAt Go.RowKit
open Gen
open Lib (hid)
theorem c_h (v m:Int) (w:World):Calls Tryz.prog 74 #[.int .i64 v,.int .i64 m] w (g_X (decide (0≤v∧v≤m)) w):=by
 go_enter Tryz.func74,Tryz.ntmps74
 exact J95
theorem e_V (a:Option Addr) (n c:Nat) (fs:List Fr) (w:World) (S:Vs repFr Any w a n fs) (hn:n≤9223372036854775807) :
  Calls Tryz.prog 75 #[.slice a n c] w (a_1 (c_q fs) w):=by
 have Hn:=hid S.1
 by_cases h6:n≤6
 ·have i6:¬ (6:Int) < n:=by omega
  go_enter Tryz.func75,Tryz.ntmps75
  go_wp2
  go_loopw [10] (fun i wr=>∃ k:Nat,k≤n∧i=.int .i64 k∧Hid (k_l fs k)∧Below w.heap.size w wr) (fun i _=>n - (intOf i).toNat)
  case atStart=>exact ⟨0,by omega,rfl,(show k_l fs 0 from fun i f hi=>by omega),Below.refl _ _⟩
  case round =>
   obtain ⟨k,hk,rfl,hf,hb⟩:=hrel;obtain ⟨wo,hwo⟩:∃ wo:World,wo=wr:=⟨_,rfl⟩;subst hwo
   by_cases hlt:k < n
   ·obtain ⟨b,o,x0,x1,x2,x3,x4,rfl,hx,g0,g1,g2,g3,g4⟩:=m_O (e_J hb S) hlt;have ⟨HX,HB⟩:=hh2 hx hb;have i1:(0:Int)≤k:=by omega
    have i2:(k:Int) < n:=by omega
    clear hx hb
    by_cases h0:0≤x0∧x0≤1000
    ·have HS:=hid (h_9 hf.out HX.out h0);have HD:=hid (show decide (0≤x0∧x0≤1000)=true by simpa using h0);clear h0
     go_wp2_with fail
     refine (c_h x0 1000 _).mono ?_;rintro e w1 ⟨rfl,h1⟩
     cases h1
     rw [HD.out]
     go_wp2
     go_roundw
     case rel=>exact ⟨k+1,by omega,by go_num,HS.out,HB.out.alloc HB.out.size _⟩
     case measure=>simp [intOf];omega
    ·have HS:=hid (i_h HX.out h0);have HD:=hid (show decide (0≤x0∧x0≤1000)=false by simpa using h0);clear h0
     go_wp2_with fail
     refine (c_h x0 1000 _).mono ?_;rintro e w1 ⟨rfl,h1⟩
     cases h1
     rw [HD.out]
     go_wp2
     go_ret
     exact a_i HS.out (HB.out.alloc HB.out.size _)
   ·obtain rfl:k=n:=by omega
    have HB:=hid hb;clear hb
    go_wp2
    go_ret
    exact a_i (h_s Hn.out h6 hf.out) HB.out
 ·have i6:(6:Int) < n:=by omega
  have HS:=hid (j_Y (fs:=fs) (by rw [Hn.out];exact h6));clear h6
  go_enter Tryz.func75,Tryz.ntmps75
  go_wp2
  go_ret
  exact a_i HS.out (Below.refl _ _)
theorem i_L (a:Option Addr) (n c:Nat) (fs:List Int) (w:World) (S:Vs repInt Any w a n fs) (hn:n≤9223372036854775807) :
  Calls Tryz.prog 77 #[.slice a n c] w (g_X (b_6 fs) w):=by
 have Hn:=hid S.1
 by_cases h6:n≤8
 ·have i6:¬ (8:Int) < n:=by omega
  go_enter Tryz.func77,Tryz.ntmps77
  go_wp2
  go_loop [10] (fun i=>∃ k:Nat,k≤n∧i=.int .i64 k∧Hid (s_k fs k)) (fun i=>n - (intOf i).toNat)
  case atStart=>exact ⟨0,by omega,rfl,(show s_k fs 0 from fun i f hi=>by omega)⟩
  case round =>
   obtain ⟨k,hk,rfl,hf⟩:=hrel
   by_cases hlt:k < n
   ·obtain ⟨b,o,x0,rfl,hx,g0⟩:=h_e S hlt;have HX:=hid hx;have i1:(0:Int)≤k:=by omega
    have i2:(k:Int) < n:=by omega
    clear hx
    by_cases h0:0≤x0∧x0≤8
    ·have HS:=hid (j_B hf.out HX.out h0);have HD:=hid (show decide (0≤x0∧x0≤8)=true by simpa using h0);clear h0
     go_wp2_with fail
     refine (c_h x0 8 _).mono ?_;rintro e w1 ⟨rfl,h1⟩
     cases h1
     rw [HD.out]
     go_wp2
     go_round
     case rel=>exact ⟨k+1,by omega,by go_num,HS.out⟩
     case measure=>simp [intOf];omega
    ·have HS:=hid (i_i HX.out h0);have HD:=hid (show decide (0≤x0∧x0≤8)=false by simpa using h0);clear h0
     go_wp2_with fail
     refine (c_h x0 8 _).mono ?_;rintro e w1 ⟨rfl,h1⟩
     cases h1
     rw [HD.out]
     go_wp2
     go_ret
     exact c_U HS.out
   ·obtain rfl:k=n:=by omega
    go_wp2
    go_ret
    exact c_U (h_t Hn.out h6 hf.out)
 ·have i6:(8:Int) < n:=by omega
  have HS:=hid (j_Z (fs:=fs) (by rw [Hn.out];exact h6));clear h6
  go_enter Tryz.func77,Tryz.ntmps77
  go_wp2
  go_ret
  exact c_U HS.out
theorem f_p (t:Thr) (fa la:Option Addr) (fn fc ln lc:Nat) (w:World) :
  Calls Tryz.prog 76 #[.agg (thC t fa fn fc la ln lc).toArray] w (a_1 (d_8 t.st t.ft) w):=by
 go_enter Tryz.func76,Tryz.ntmps76
 go_wp2
 all_goals
  go_ret
  refine a_i ?_ (by go_grown)
  try simp only [beq_iff_eq,beq_eq_false_iff_ne] at *
  rw [Bool.eq_iff_iff];simp [d_8]
  try omega
theorem b_r (w:World) (g:Nat) (t:Thr) (fa la:Option Addr) (fn fc ln lc:Nat) (h:a_p w g (thC t fa fn fc la ln lc)):(loadVar 46 ⟨g,0,none⟩).run Tryz.prog w=.ok (.agg (thC t fa fn fc la ln lc).toArray) w:=by
 have k0:=(h 0 _ rfl).1;have k1:=(h 1 _ rfl).1;have k2:=(h 2 _ rfl).1;have k3:=(h 3 _ rfl).1;have k4:=(h 4 _ rfl).1;have k5:=(h 5 _ rfl).1;have k6:=(h 6 _ rfl).1;have k7:=(h 7 _ rfl).1;have k8:=(h 8 _ rfl).1;have k9:=(h 9 _ rfl).1;have k10:=(h 10 _ rfl).1;have k11:=(h 11 _ rfl).1;have k12:=(h 12 _ rfl).1;simp [go_sem,k0,k1,k2,k3,k4,k5,k6,k7,k8,k9,k10,k11,k12]
theorem d_i (t:Thr) (fa la:Option Addr) (fn fc ln lc:Nat) (w:World) (F:ThF w fa fn fc la ln lc t) :
  Calls Tryz.prog 37 #[.agg (thC t fa fn fc la ln lc).toArray] w (a_1 (a_Q t) w):=by
 obtain ⟨W,hW⟩:=nm (w.alloc (Obj.cells (thC t fa fn fc la ln lc).toArray 46));have X:=N110;have hB:=N2;have hn:fn≤9223372036854775807:=Nat.le_trans F.fcap.1 F.fcap.2.1;have hm:ln≤9223372036854775807:=Nat.le_trans F.lcap.1 F.lcap.2.1;replace F:=c_0 hB F;have S1:=F.fs;have S2:=F.lf;have ⟨HX,HB,HW⟩:=hh3 X hB hW;clear hW X hB F
 go_enter Tryz.func37,Tryz.ntmps37
 go_upto_region 1 with fail
 rw [←HW.out];have k0:=(HX.out 0 _ rfl).1;have k9:=(HX.out 9 _ rfl).1
 cases h1:decide (0≤t.pc∧t.pc≤1000) with
 | false =>
  have H1:=hid h1;clear h1
  go_wp2_with fail
  refine (c_h t.pc 1000 _).mono ?_;rintro e w1 ⟨rfl,h⟩
  cases h
  rw [H1.out]
  go_wp2
  go_ret
  exact a_i (by rw [a_Q,H1.out];rfl) HB.out
 | true =>
  have H1:=hid h1;clear h1
  go_wp2_with fail
  refine (c_h t.pc 1000 _).mono ?_;rintro e w1 ⟨rfl,h⟩
  cases h
  rw [H1.out]
  cases h2:c_q t.fs with
  | false =>
   have H2:=hid h2;clear h2
   go_wp2_with fail
   refine (e_V fa fn fc t.fs _ S1 hn).mono ?_;rintro e w1 ⟨rfl,hb1⟩;rw [H2.out];have HB1:=hid (a_a HB.out hb1);clear hb1
   go_wp2
   go_ret
   exact a_i (by rw [a_Q,H2.out,Bool.and_false];rfl) HB1.out
  | true =>
   have H2:=hid h2;clear h2
   go_wp2_with fail
   refine (e_V fa fn fc t.fs _ S1 hn).mono ?_;rintro e w1 ⟨rfl,hb1⟩;rw [H2.out];have HB1:=hid (a_a HB.out hb1);have X1:=a_h hb1 HX.out;replace S2:=e_J hb1 S2;have HX1:=hid X1;clear hb1 k0 k9;have k0:=(X1 0 _ rfl).1;have k1:=(X1 1 _ rfl).1;have k2:=(X1 2 _ rfl).1;have k3:=(X1 3 _ rfl).1;have k4:=(X1 4 _ rfl).1;have k5:=(X1 5 _ rfl).1;have k6:=(X1 6 _ rfl).1;have k7:=(X1 7 _ rfl).1;have k8:=(X1 8 _ rfl).1;have k9:=(X1 9 _ rfl).1;have k10:=(X1 10 _ rfl).1;have k11:=(X1 11 _ rfl).1;have k12:=(X1 12 _ rfl).1;clear X1
   cases h3:d_8 t.st t.ft with
   | false =>
    have H3:=hid h3;clear h3
    go_wp2_with fail
    refine (f_p t fa la fn fc ln lc _).mono ?_;rintro e w2 ⟨rfl,hb2⟩;rw [H3.out];have HB2:=hid (a_a HB1.out hb2);clear hb2
    go_wp2
    go_ret
    exact a_i (by rw [a_Q,H3.out,Bool.and_false];rfl) HB2.out
   | true =>
    have H3:=hid h3;clear h3
    go_wp2_with fail
    refine (f_p t fa la fn fc ln lc _).mono ?_;rintro e w2 ⟨rfl,hb2⟩;rw [H3.out];have HB2:=hid (a_a HB1.out hb2);replace k12:=a_t hb2 k12;replace S2:=e_J hb2 S2;clear hb2
    go_wp2_with fail
    refine (i_L la ln lc t.lf _ S2 hm).mono ?_;rintro e w3 ⟨rfl,h⟩
    cases h
    obtain ⟨r,hr⟩:=mn (b_6 t.lf);have HR:=hid hr;rw [hr];clear hr
    go_wp2
    go_ret
    exact a_i (by rw [a_Q,H1.out,H2.out,H3.out,HR.out];rfl) HB2.out
theorem Tryz.sizeI3:(Tryz.prog.info? 3).map (·.size)=some 1:=by kernel_rfl
theorem f_X (w:World) (b o dl dc b' o' sl sc:Nat) (cs vs us:List Value) (hn:cs.length=Nat.min sl dl) (hs:a_p w b' us) (hsrc:∀ j v,cs[j]?=some v→us[o'+j]?=some v) (hd:a_p w b vs) (hl:o+cs.length≤vs.length) (h1:∀ v∈cs,v.oneCell'=true) :
  (Builtin.copy_ #[23,23] 3 #[.slice (some ⟨b,o,none⟩) dl dc,.slice (some ⟨b',o',none⟩) sl sc]).run Tryz.prog w=.ok (goInt cs.length) (d_v w b o cs):=by
 have hc:∀ j,j < cs.length→∃ v,vs[o+j]?=some v:=fun j hj=>⟨vs[o+j],by simp [show o+j < vs.length by omega]⟩
 rw [←f_b];refine run_copy_cells (P:=Tryz.prog) w 23 23 3 3 b o dl dc ⟨b',o',none⟩ sl sc cs Tryz.underlying23 Tryz.sizeI3 hn (fun j v hj=>?_) (fun j hj=>?_) (fun j hj=>?_) h1
 ·rw [Gen.add_plain];exact (hs _ _ (hsrc j v hj)).1
 ·obtain ⟨v,hv⟩:=hc j hj;rw [(hd _ _ hv).1];rfl
 ·obtain ⟨v,hv⟩:=hc j hj;exact (hd _ _ hv).2
theorem o_H (w:World) (g:Nat) (x0 x1 x2 x3:Value) (h:a_p w g [x0,x1,x2,x3]):(loadVar 99 ⟨g,0,none⟩).run Tryz.prog w=.ok (.agg #[x0,x1,x2,x3]) w:=by
 have k0:=(h 0 _ rfl).1;have k1:=(h 1 _ rfl).1;have k2:=(h 2 _ rfl).1;have k3:=(h 3 _ rfl).1;simp [go_sem,k0,k1,k2,k3]
theorem o_I (w:World) (g:Nat) (x0 x1 x2 x3 x4 x5 x6 x7:Value) (h:a_p w g [x0,x1,x2,x3,x4,x5,x6,x7]):(loadVar 43 ⟨g,0,none⟩).run Tryz.prog w=.ok (.agg #[x0,x1,x2,x3,x4,x5,x6,x7]) w:=by
 have k0:=(h 0 _ rfl).1;have k1:=(h 1 _ rfl).1;have k2:=(h 2 _ rfl).1;have k3:=(h 3 _ rfl).1;have k4:=(h 4 _ rfl).1;have k5:=(h 5 _ rfl).1;have k6:=(h 6 _ rfl).1;have k7:=(h 7 _ rfl).1;simp [go_sem,k0,k1,k2,k3,k4,k5,k6,k7]
theorem q_S (r:Nat→Int) (w:World) :
  Calls Tryz.prog 166 #[.agg (rgC r).toArray] w fun e w'=>e=.returned (.agg #[.int .i64 (r 4),.int .i64 (r 5),.int .i64 (r 6),.int .i64 (r 7)])∧Below w.heap.size w w':=by
 obtain ⟨W,hW⟩:=nm (((w.alloc (Obj.cells (rgC r).toArray 43)).alloc (Obj.cells #[.int .i64 0,.int .i64 0,.int .i64 0,.int .i64 0] 99)).alloc (Obj.cells #[.int .i64 0,.int .i64 0,.int .i64 0,.int .i64 0] 99));have hB:=N2;have X:=N208;have R:a_p W (w.heap.size+1) [.int .i64 0,.int .i64 0,.int .i64 0,.int .i64 0]:=by rw [hW];exact a_s _ (a_e [.int .i64 0,.int .i64 0,.int .i64 0,.int .i64 0] _ (by simp))
 have K:a_p W (w.heap.size+2) [.int .i64 0,.int .i64 0,.int .i64 0,.int .i64 0]:=by rw [hW];exact a_e [.int .i64 0,.int .i64 0,.int .i64 0,.int .i64 0] _ (by simp)
 have hrun:=f_X W.drew (w.heap.size+2) 0 4 4 w.heap.size 4 4 4 [.int .i64 (r 4),.int .i64 (r 5),.int .i64 (r 6),.int .i64 (r 7)] _ _ rfl (b_L X) (fun j v hj=>by
  match j,hj with
  | 0,h=>exact h
  | 1,h=>exact h
  | 2,h=>exact h
  | 3,h=>exact h
  | j+4,h=>simp at h) (b_L K) (by simp) (by intro v hv;simp at hv;rcases hv with rfl | rfl | rfl | rfl <;> rfl)
 obtain ⟨Z,hZ⟩:=nm (d_v W.drew (w.heap.size+2) 0 [.int .i64 (r 4),.int .i64 (r 5),.int .i64 (r 6),.int .i64 (r 7)]);have K2:a_p Z (w.heap.size+2) [.int .i64 (r 4),.int .i64 (r 5),.int .i64 (r 6),.int .i64 (r 7)]:=by rw [hZ];exact a_q (b_L K) rfl
 have R2:a_p Z (w.heap.size+1) [.int .i64 0,.int .i64 0,.int .i64 0,.int .i64 0]:=by rw [hZ];exact a_k (by omega) (b_L R)
 have B2:Below w.heap.size w Z:=by rw [hZ];exact a_j (by omega) hB.drew
 rw [←hZ] at hrun;have ⟨HRUN,HW,HK2,HR2,HB2⟩:=hh5 hrun hW K2 R2 B2;clear hrun hZ hW K2 R2 B2 hB X R K
 go_enter Tryz.func166,Tryz.ntmps166
 go_upto_region 2 with fail
 rw [←HW.out]
 go_region_law (refine f_0 rfl (.tmp 4) (.tmp 5) 23 23 rfl _ _ _ _ (by simp [Act.eval,Act.put]) (by simp [Act.eval,Act.put]) HRUN.out ?_)
 have k0:=(HK2.out 0 _ rfl).1;have k1:=(HK2.out 1 _ rfl).1;have k2:=(HK2.out 2 _ rfl).1;have k3:=(HK2.out 3 _ rfl).1;obtain ⟨y0,g0⟩:=HR2.out 0 _ rfl;obtain ⟨y1,g1⟩:=HR2.out 1 _ rfl;obtain ⟨y2,g2⟩:=HR2.out 2 _ rfl;obtain ⟨y3,g3⟩:=HR2.out 3 _ rfl
 go_wp2
 refine a_X ⟨w.heap.size+1,0,none⟩ rfl rfl rfl (o_H _ _ _ _ _ _ (a_q (xs:=[.int .i64 (r 4),.int .i64 (r 5),.int .i64 (r 6),.int .i64 (r 7)]) HR2.out rfl)) ?_;exact ⟨rfl,a_j (g:=w.heap.size+1) (xs:=[.int .i64 (r 4),.int .i64 (r 5),.int .i64 (r 6),.int .i64 (r 7)]) (k:=0) (by omega) HB2.out⟩
def j_V (r:Nat→Int) (k0 k1 k2 k3:Int):Nat→Int:=fun i=>if i=4 then k0 else if i=5 then k1 else if i=6 then k2 else if i=7 then k3 else r i
theorem j_W (r:Nat→Int) (x0 x1 x2 x3:Int) (w:World) :
  Calls Tryz.prog 167 #[.agg (rgC r).toArray,.agg #[.int .i64 x0,.int .i64 x1,.int .i64 x2,.int .i64 x3]] w fun e w'=>e=.returned (.agg #[.int .i64 ((j_V r x0 x1 x2 x3) 0),.int .i64 ((j_V r x0 x1 x2 x3) 1),.int .i64 ((j_V r x0 x1 x2 x3) 2),.int .i64 ((j_V r x0 x1 x2 x3) 3),.int .i64 ((j_V r x0 x1 x2 x3) 4),.int .i64 ((j_V r x0 x1 x2 x3) 5),.int .i64 ((j_V r x0 x1 x2 x3) 6),.int .i64 ((j_V r x0 x1 x2 x3) 7)])∧Below w.heap.size w w':=by
 obtain ⟨W,hW⟩:=nm (((w.alloc (Obj.cells (rgC r).toArray 43)).alloc (Obj.cells #[.int .i64 x0,.int .i64 x1,.int .i64 x2,.int .i64 x3] 99)).alloc (Obj.cells rgZ.toArray 43));have hB:=N2;have X:=N208;have K:a_p W (w.heap.size+1) [.int .i64 x0,.int .i64 x1,.int .i64 x2,.int .i64 x3]:=by rw [hW];exact a_s _ (a_e [.int .i64 x0,.int .i64 x1,.int .i64 x2,.int .i64 x3] _ (by simp))
 have R:a_p W (w.heap.size+2) rgZ:=by rw [hW];exact a_e rgZ _ (by simp)
 have hrun:=f_X W.drew w.heap.size 4 4 4 (w.heap.size+1) 0 4 4 [.int .i64 x0,.int .i64 x1,.int .i64 x2,.int .i64 x3] _ _ rfl (b_L K) (fun j v hj=>by
  match j,hj with
  | 0,h=>exact h
  | 1,h=>exact h
  | 2,h=>exact h
  | 3,h=>exact h
  | j+4,h=>simp at h) (b_L X) (by simp) (by intro v hv;simp at hv;rcases hv with rfl | rfl | rfl | rfl <;> rfl)
 obtain ⟨Z,hZ⟩:=nm (d_v W.drew w.heap.size 4 [.int .i64 x0,.int .i64 x1,.int .i64 x2,.int .i64 x3]);have X2:a_p Z w.heap.size [.int .i64 (r 0),.int .i64 (r 1),.int .i64 (r 2),.int .i64 (r 3),.int .i64 x0,.int .i64 x1,.int .i64 x2,.int .i64 x3]:=by rw [hZ];exact b_c (xs:=[.int .i64 x0,.int .i64 x1,.int .i64 x2,.int .i64 x3]) 4 (b_L X) (by simp)
 have R2:a_p Z (w.heap.size+2) rgZ:=by rw [hZ];exact a_k (by omega) (b_L R)
 have B2:Below w.heap.size w Z:=by rw [hZ];exact a_j (by omega) hB.drew
 rw [←hZ] at hrun;have ⟨HRUN,HW,HX2,HR2,HB2⟩:=hh5 hrun hW X2 R2 B2;clear hrun hZ hW X2 R2 B2 hB X R K
 go_enter Tryz.func167,Tryz.ntmps167
 go_upto_region 1 with fail
 rw [←HW.out]
 go_region_law (refine f_0 rfl (.tmp 5) (.tmp 6) 23 23 rfl _ _ _ _ (by simp [Act.eval,Act.put]) (by simp [Act.eval,Act.put]) HRUN.out ?_)
 have k0:=(HX2.out 0 _ rfl).1;have k1:=(HX2.out 1 _ rfl).1;have k2:=(HX2.out 2 _ rfl).1;have k3:=(HX2.out 3 _ rfl).1;have k4:=(HX2.out 4 _ rfl).1;have k5:=(HX2.out 5 _ rfl).1;have k6:=(HX2.out 6 _ rfl).1;have k7:=(HX2.out 7 _ rfl).1;obtain ⟨y0,g0⟩:=HR2.out 0 _ rfl;obtain ⟨y1,g1⟩:=HR2.out 1 _ rfl;obtain ⟨y2,g2⟩:=HR2.out 2 _ rfl;obtain ⟨y3,g3⟩:=HR2.out 3 _ rfl;obtain ⟨y4,g4⟩:=HR2.out 4 _ rfl;obtain ⟨y5,g5⟩:=HR2.out 5 _ rfl;obtain ⟨y6,g6⟩:=HR2.out 6 _ rfl;obtain ⟨y7,g7⟩:=HR2.out 7 _ rfl
 go_wp2
 refine a_X ⟨w.heap.size+2,0,none⟩ rfl rfl rfl (o_I _ _ _ _ _ _ _ _ _ _ (a_q (xs:=[.int .i64 (r 0),.int .i64 (r 1),.int .i64 (r 2),.int .i64 (r 3),.int .i64 x0,.int .i64 x1,.int .i64 x2,.int .i64 x3]) HR2.out rfl)) ?_;exact ⟨rfl,a_j (g:=w.heap.size+2) (xs:=[.int .i64 (r 0),.int .i64 (r 1),.int .i64 (r 2),.int .i64 (r 3),.int .i64 x0,.int .i64 x1,.int .i64 x2,.int .i64 x3]) (k:=0) (by omega) HB2.out⟩
def s_m {α:Type} (T:TypeId) (r:Rep α) (f:α→List Value) (ys:List α) (w:World) (e:Ending) (w':World):Prop:=
 ∃ a c,e=.returned (.slice a ys.length c)∧Cap a ys.length c∧w'.ownsRow w.heap.size T r.k (.slice a ys.length c) ys.length (ys.flatMap f)∧Vs r (fun b=>w.heap.size≤b) w' a ys.length ys∧Below w.heap.size w w'
theorem l_5 {α:Type} {r:Rep α} {f:α→List Value} {ys:List α} {w w':World} {T:TypeId} {v:Value} {n:Nat} (hn:ys.length=n) (h:w'.ownsRow w.heap.size T r.k v n (ys.flatMap f)) (hQ:d_y r (fun b=>w.heap.size≤b) w' (ys.flatMap f) ys) (hb:Below w.heap.size w w'):s_m T r f ys w (.returned v) w':=by
 obtain ⟨a,c,rfl,h1,h2,h3,h4⟩:=e_E h hQ (fun b h _=>h);subst hn;exact ⟨a,c,rfl,⟨h1,h2,h3⟩,h,h4,hb⟩
theorem f_L {Q:Nat→Prop} {w:World} (ys:List Fr):d_y repFr Q w (ys.flatMap e_c) ys:=e_T (k:=5) (f:=e_c) (hk:=by decide) (hf:=fun _=>rfl) ys
def p_1 (z:Int):List Value:=[.int .i64 z]
theorem g_9 {Q:Nat→Prop} {w:World}:∀ (ys:List Int),d_y repInt Q w (ys.flatMap p_1) ys
 | []=>rfl
 | y::ys=>⟨[.int .i64 y],ys.flatMap p_1,rfl,rfl,g_9 ys⟩
theorem q_9 (ys:List Int):∀ u∈ys.flatMap p_1,u.oneCell'=true:=by
 intro u hu;obtain ⟨y,_,h⟩:=List.mem_flatMap.1 hu;simp [p_1] at h;subst h;rfl
theorem o_7 (ys:List Fr):∀ u∈ys.flatMap e_c,u.oneCell'=true:=by
 intro u hu;obtain ⟨y,_,h⟩:=List.mem_flatMap.1 hu;simp [e_c] at h;rcases h with rfl | rfl | rfl | rfl | rfl <;> rfl
theorem q_T (ys:List Int):(ys.flatMap p_1).length=ys.length:=by
 have:=b_h (g_9 (Q:=Any) (w:=default) ys);rw [this];exact Nat.mul_one _
theorem o_F (ys:List Fr):(ys.flatMap e_c).length=ys.length*5:=b_h (f_L (Q:=Any) (w:=default) ys)
theorem l_1:∀ (ys:List Int),ys.flatMap p_1=ys.map (Value.int .i64)
 | []=>rfl
 | y::ys=>congrArg (Value.int .i64 y::·) (l_1 ys)
theorem p_L {Q:Nat→Prop} {w:World} {a:Option Addr} {n:Nat} {ys:List Int} (h:Vs repInt Q w a n ys):∀ b,a=some b→∀ j u,(ys.flatMap p_1)[j]?=some u→w.cell? (b.add j)=some u:=by
 rw [l_1];exact p_K h
theorem i_t {Q:Nat→Prop} {w:World} {a:Option Addr} {n:Nat} {ys:List Fr} (h:Vs repFr Q w a n ys):∀ b,a=some b→∀ j u,(ys.flatMap e_c)[j]?=some u→w.cell? (b.add j)=some u:=
 j_8 (k:=5) (f:=e_c) (hk:=by decide) (hf:=fun _=>rfl) h
theorem Tryz.infoI3:(Tryz.prog.info? 3).map (fun i=>(i.zero,i.size,i.bytes))=some (some (.int .i64 0),1,8):=by kernel_rfl
theorem Tryz.infoF105:(Tryz.prog.info? 105).map (fun i=>(i.zero,i.size,i.bytes))=some (some (.agg #[.int .i64 0,.int .i64 0,.int .i64 0,.int .i64 0,.int .i64 0]),5,40):=by kernel_rfl
theorem f_u (a:Option Addr) (n c:Nat) (ys:List Fr) (w:World) (S:Vs repFr Any w a n ys) (hc:Cap a n c) (hn:n≤1000) :
  Calls Tryz.prog 88 #[.slice a n c] w (s_m 105 repFr e_c ys w):=by
 obtain ⟨i0,hi,hz0,hz1,hz2⟩:=N226;have HI:=N60;have Hn:=hid S.1;have HS:=hid S;have q:=fun w=>d_Q 44 105 a n c Tryz.underlying44 w
 clear hi hz0 hz1 hz2 S
 cases a with
 | none =>
  obtain rfl:c=0:=hc.2.2 rfl;obtain rfl:n=0:=by have:=hc.1;omega
  obtain rfl:ys=[]:=List.eq_nil_of_length_eq_zero Hn.out;clear hc
  go_enter Tryz.func88,Tryz.ntmps88
  go_wp2
  go_ret
  exact ⟨none,0,rfl,b_W,World.ownsRow_nil _ _ _ _,d_h,Below.refl _ _⟩
 | some p =>
  have hc1:=hc.1;have hc2:=hc.2.1;clear hc
  go_enter Tryz.func88,Tryz.ntmps88
  go_wp2_with (at_builtin;refine wpList_append_own _ rfl _ _ 44 rfl w.heap.size 105 i0 (.agg #[.int .i64 0,.int .i64 0,.int .i64 0,.int .i64 0,.int .i64 0]) 5 40 Tryz.underlying44 HI.out.1 HI.out.2.1 HI.out.2.2.1 HI.out.2.2.2 rfl (by decide) _ 0 [] rfl (World.ownsRow_made w #[] 0 (Nat.le_refl _) (by decide) (by simp)) p n c (ys.flatMap e_c) rfl ?c1 ?c2 ?c3 ?c4 ?c5 ?c6 ?_)
  case c1=>rw [o_F,Hn.out]
  case c2=>exact i_t (u_D _ HS.out) p rfl
  case c3=>exact o_7 _
  case c4=>unfold maxLen;omega
  case c5=>omega
  case c6=>simp
  intro v' w1 hown' hgrow _;have hb':=((Below.refl w.heap.size w).alloc (Nat.le_refl _) (.cells #[] 105)).grown hgrow (by simp) (fun r hr=>by cases hr;simp);have ⟨HO,HB⟩:=hh2 hown' hb';clear hown' hb' hgrow
  go_wp2
  go_ret
  exact l_5 (r:=repFr) (f:=e_c) Hn.out HO.out (f_L ys) HB.out
theorem f_v (a:Option Addr) (n c:Nat) (ys:List Int) (w:World) (S:Vs repInt Any w a n ys) (hc:Cap a n c) (hn:n≤1000) :
  Calls Tryz.prog 85 #[.slice a n c] w (s_m 3 repInt p_1 ys w):=by
 obtain ⟨i0,hi,hz0,hz1,hz2⟩:=info_parts Tryz.infoI3;have HI:=N60;have Hn:=hid S.1;have HS:=hid S;have q:=fun w=>d_Q 23 3 a n c Tryz.underlying23 w
 clear hi hz0 hz1 hz2 S
 cases a with
 | none =>
  obtain rfl:c=0:=hc.2.2 rfl;obtain rfl:n=0:=by have:=hc.1;omega
  obtain rfl:ys=[]:=List.eq_nil_of_length_eq_zero Hn.out;clear hc
  go_enter Tryz.func85,Tryz.ntmps85
  go_wp2
  go_ret
  exact ⟨none,0,rfl,b_W,World.ownsRow_nil _ _ _ _,d_h,Below.refl _ _⟩
 | some p =>
  have hc1:=hc.1;have hc2:=hc.2.1;clear hc
  go_enter Tryz.func85,Tryz.ntmps85
  go_wp2_with (at_builtin;refine wpList_append_own _ rfl _ _ 23 rfl w.heap.size 3 i0 (.int .i64 0) 1 8 Tryz.underlying23 HI.out.1 HI.out.2.1 HI.out.2.2.1 HI.out.2.2.2 rfl (by decide) _ 0 [] rfl (World.ownsRow_made w #[] 0 (Nat.le_refl _) (by decide) (by simp)) p n c (ys.flatMap p_1) rfl ?c1 ?c2 ?c3 ?c4 ?c5 ?c6 ?_)
  case c1=>rw [q_T,Hn.out,Nat.mul_one]
  case c2=>exact p_L (u_D _ HS.out) p rfl
  case c3=>exact q_9 _
  case c4=>unfold maxLen;omega
  case c5=>omega
  case c6=>simp
  intro v' w1 hown' hgrow _;have hb':=N85;have ⟨HO,HB⟩:=hh2 hown' hb';clear hown' hb' hgrow
  go_wp2
  go_ret
  exact l_5 (r:=repInt) (f:=p_1) Hn.out HO.out (g_9 ys) HB.out
def u_H (t:Thr) (w:World) (e:Ending) (w':World):Prop:=
 ∃ fa fc la lc,e=.returned (.agg (thC t fa t.fs.length fc la t.lf.length lc).toArray)∧Cap fa t.fs.length fc∧w'.ownsRow w.heap.size 105 5 (.slice fa t.fs.length fc) t.fs.length (t.fs.flatMap e_c) ∧
  Vs repFr (fun b=>w.heap.size≤b) w' fa t.fs.length t.fs∧Cap la t.lf.length lc∧Vs repInt (fun b=>w.heap.size≤b∧(Value.slice fa t.fs.length fc).ownBlock≠some b) w' la t.lf.length t.lf∧Below w.heap.size w w'
theorem h_6 (t:Thr) (fa la:Option Addr) (fn fc ln lc:Nat) (w:World) (F:ThF w fa fn fc la ln lc t) (h1:fn≤1000) (h2:ln≤1000) :
  Calls Tryz.prog 165 #[.agg (thC t fa fn fc la ln lc).toArray] w (u_H t w):=by
 obtain ⟨W,hW⟩:=nm ((w.alloc (Obj.cells (thC t fa fn fc la ln lc).toArray 46)).alloc (Obj.cells thN.toArray 46));have X:=N37;have R:=N14;have hB:=N2;have hz:=N84;have C1:=F.fcap;have C2:=F.lcap;have S1:=e_J hB F.fs;have S2:=a_z (a_B hB) (s_f F.lf);have ⟨HX,HR,HB,HW,HZ⟩:=hh5 X R hB hW hz;clear hW X R hB F hz
 go_enter Tryz.func165,Tryz.ntmps165
 exact J1
end Go.Proofs.YtolabfafgbmdbaaGreatDoor
