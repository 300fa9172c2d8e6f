import Derived.Test.YtolabfafgbmdbaaGreatDoorQ6
import Derived.Test.YtolabfafgbmdbaaGreatDoorQ0
import Derived.Test.YtolabfafgbmdbaaGreatDoorQ21
import Derived.Test.YtolabfafgbmdbaaGreatDoorQ15
import Derived.Test.YtolabfafgbmdbaaGreatDoorQ5
import Derived.Test.YtolabfafgbmdbaaGreatDoorQ14
import Derived.Test.YtolabfafgbmdbaaGreatDoorQ2
import Derived.Laws.AppendOwnNone
import Derived.Test.YtolabfafgbmdbaaGreatDoorQ20
set_option maxRecDepth 100000
set_option maxHeartbeats 16000000
namespace Go.Proofs.YtolabfafgbmdbaaGreatDoor
open Go.ChangeShapes Go.WideShapes Go.ChangeAt Go.RowKit
open Gen
open Lib (hid)
theorem q_5:∀ k,k < 27→opName.getD k []≠[]:=by
 have h:(List.range 27).all (fun k=>decide (opName.getD k []≠[]))=true:=by kernel_rfl
 intro k hk
 simpa using List.all_eq_true.1 h k (List.mem_range.2 hk)
theorem l_b (i:Ins) (m:Int) (w:World):Calls Tryz.prog 33 #[t_s i,.int .i64 m] w (a_1 (c_Q i m) w):=by
 obtain ⟨op,a,b,c⟩:=i
 show Calls Tryz.prog 33 #[.agg #[.int .i64 op,.int .i64 a,.int .i64 b,.int .i64 c],.int .i64 m] w (a_1 (c_Q (op,a,b,c) m) w)
 obtain ⟨W,hW⟩:=nm (w.alloc (Obj.cells #[.int .i64 op,.int .i64 a,.int .i64 b,.int .i64 c] 66));have X:a_p W w.heap.size [.int .i64 op,.int .i64 a,.int .i64 b,.int .i64 c]:=by rw [hW];exact a_e _ _ rfl
 have hB:=N2;have ⟨HB,HW,HX⟩:=hh3 hB hW X;clear hW X hB
 by_cases h0:0≤op∧op < 27
 ·obtain ⟨k,rfl⟩:∃ k:Nat,op=(k:Int):=⟨op.toNat,by omega⟩;have hk:k < 27:=by omega
  obtain ⟨sg,hsg⟩:=mn (opSign.getD k []);obtain ⟨nm,hnm⟩:=mn (opName.getD k []);have hne:nm.isEmpty=false:=by rw [←Bool.not_eq_true,List.isEmpty_iff,←hnm];exact q_5 k hk
  obtain ⟨s1,s2⟩:=m_h k hk;rw [hsg] at s1 s2;have hop:(opSign.getD ((k:Int),a,b,c).1.toNat [])=sg:=by rw [←hsg];rfl
  have ⟨HOP,HSC,H0⟩:=hh3 hop s2 h0;have hn1:=fun w'=>l_c k w' hk
  have hk1:=fun w'=>j_O k w' hk
  simp only [hnm] at hn1;simp only [hsg] at hk1;clear hsg hop h0 s2 hk hnm
  go_enter Tryz.func33,Tryz.ntmps33
  go_upto_region 1 with fail
  rw [←HW.out];have x0:=(HX.out 0 _ rfl).1;have x1:=(HX.out 1 _ rfl).1;have x2:=(HX.out 2 _ rfl).1;have x3:=(HX.out 3 _ rfl).1
  go_wp2_with fail
  refine (hn1 _).mono ?_;rintro e w1 ⟨rfl,hb1⟩;have HX1:=hid (a_h hb1 HX.out);have HBW:=hid hb1;clear hb1 x0 x1 x2 x3;have x0:=(HX1.out 0 _ rfl).1;have x1:=(HX1.out 1 _ rfl).1;have x2:=(HX1.out 2 _ rfl).1;have x3:=(HX1.out 3 _ rfl).1
  go_wp2_with fail
  refine (hk1 _).mono ?_;rintro e w2 ⟨rfl,hb2⟩;have HBW2:=hid (a_a HBW.out hb2);clear hb2 x0 x1 x2 x3 HBW HX1 hk1 hn1 hne
  go_wp2
  go_loopw [6] (fun i wr=>∃ j:Nat,j≤3∧i=.int .i64 j∧Hid (∀ q,q < j→kOk (k,a,b,c) m sg q=true)∧Hid (Below W.heap.size W wr)) (fun i _=>3 - (intOf i).toNat)
  case atStart=>exact ⟨0,by omega,rfl,(show ∀ q,q < 0→_ from fun q hq=>by omega),HBW2.out⟩
  case round =>
   clear HBW2;obtain ⟨j,hj,rfl,hok,HBW⟩:=hrel
   have hstep:∀ {j:Nat},(∀ q,q < j→kOk (k,a,b,c) m sg q=true)→kOk (k,a,b,c) m sg j=true→∀ q,q < j+1→kOk (k,a,b,c) m sg q=true:=fun h1 h2 q hq=>by
    rcases Nat.lt_succ_iff_lt_or_eq.1 hq with h | rfl
    ·exact h1 q h
    ·exact h2
   have HXR:=hid (a_h HBW.out HX.out);have x0:=(HXR.out 0 _ rfl).1;have x1:=(HXR.out 1 _ rfl).1;have x2:=(HXR.out 2 _ rfl).1;have x3:=(HXR.out 3 _ rfl).1;clear HXR
   rcases (show j=0∨j=1∨j=2∨j=3 by omega) with rfl | rfl | rfl | rfl
   ·have hoj:e_f ((k:Int),a,b,c) 0=a:=rfl
    by_cases hlt:0 < sg.length
    ·have hjs:0 < (str sg).size:=by rw [f_d];exact hlt
     have hbt:(str sg)[0].toNat=(sg.getD 0 0).toNat:=by rw [e_6,e_v]
     have hcc:=HSC.out 0 hlt;have hv:kOk ((k:Int),a,b,c) m sg 0=b_V (sg.getD 0 0).toNat a m:=by rw [kOk,if_pos hlt];rfl
     have j1:¬ sg=[]:=by intro e;subst e;simp at hlt
     have j2:0 < sg.length:=hlt;clear hlt
     rcases hcc with hc | hc | hc
     ·rw [hc] at hv hbt;clear hc
      by_cases hlo:a < 0
      ·exact J10
      ·by_cases hhi:7 < a
       ·exact J10
       ·have hf:=N168;clear hv hoj;exact J29
     ·rw [hc] at hv hbt;clear hc
      by_cases hlo:a < -1000000000
      ·exact J10
      ·by_cases hhi:1000000000 < a
       ·exact J10
       ·have hf:=N168;clear hv hoj;exact J29
     ·rw [hc] at hv hbt;clear hc
      by_cases hlo:a < 0
      ·exact J10
      ·by_cases hhi:m < a
       ·exact J10
       ·have hf:=N168;clear hv hoj;exact J29
    ·have hv:=N236;have j1:sg=[]:=List.eq_nil_of_length_eq_zero (by omega);clear hlt hoj;subst j1
     by_cases hz:a=0
     ·have hf:kOk ((k:Int),a,b,c) m [] 0=true:=by rw [hv];exact decide_eq_true hz
      have q:(a != 0)=false:=by simpa using hz
      clear hz hv;exact J29
     ·have hf:kOk ((k:Int),a,b,c) m [] 0=false:=by rw [hv];exact decide_eq_false hz
      have q:(a != 0)=true:=by simpa using hz
      clear hz hv;have HS:=hid (b_I (i:=((k:Int),a,b,c)) (m:=m) (k:=0) (by omega) (by rw [HOP.out];exact (hf)));clear hok hstep
      go_wp2_with fail
      refine (a_F ((k:Int),a,b,c) 0 _ (by omega)).mono ?_;rintro e w1 ⟨rfl,hb1⟩;rw [show e_f ((k:Int),a,b,c) 0=a from rfl];exact J12
   ·have hoj:e_f ((k:Int),a,b,c) 1=b:=rfl
    by_cases hlt:1 < sg.length
    ·have hjs:1 < (str sg).size:=by rw [f_d];exact hlt
     have hbt:(str sg)[1].toNat=(sg.getD 1 0).toNat:=by rw [e_6,e_v]
     have hcc:=HSC.out 1 hlt;have hv:kOk ((k:Int),a,b,c) m sg 1=b_V (sg.getD 1 0).toNat b m:=by rw [kOk,if_pos hlt];rfl
     have j1:¬ (sg.length:Int)≤1:=by omega
     have j2:1 < sg.length:=hlt;have j3:((1:Int)) < sg.length:=by omega
     clear hlt
     rcases hcc with hc | hc | hc
     ·rw [hc] at hv hbt;clear hc
      by_cases hlo:b < 0
      ·exact J9
      ·by_cases hhi:7 < b
       ·exact J9
       ·have hf:=N169;clear hv hoj;exact J28
     ·rw [hc] at hv hbt;clear hc
      by_cases hlo:b < -1000000000
      ·exact J9
      ·by_cases hhi:1000000000 < b
       ·exact J9
       ·have hf:=N169;clear hv hoj;exact J28
     ·rw [hc] at hv hbt;clear hc
      by_cases hlo:b < 0
      ·exact J9
      ·by_cases hhi:m < b
       ·exact J9
       ·have hf:=N169;clear hv hoj;exact J28
    ·have hv:=N237;have j1:(sg.length:Int)≤1:=by omega
     clear hlt hoj
     by_cases hz:b=0
     ·have hf:kOk ((k:Int),a,b,c) m sg 1=true:=by rw [hv];exact decide_eq_true hz
      have q:(b != 0)=false:=by simpa using hz
      clear hz hv;exact J28
     ·have hf:kOk ((k:Int),a,b,c) m sg 1=false:=by rw [hv];exact decide_eq_false hz
      have q:(b != 0)=true:=by simpa using hz
      clear hz hv;have HS:=hid (b_I (i:=((k:Int),a,b,c)) (m:=m) (k:=1) (by omega) (by rw [HOP.out];exact (hf)));clear hok hstep
      go_wp2_with fail
      refine (a_F ((k:Int),a,b,c) 1 _ (by omega)).mono ?_;rintro e w1 ⟨rfl,hb1⟩;rw [show e_f ((k:Int),a,b,c) 1=b from rfl];exact J12
   ·have hoj:e_f ((k:Int),a,b,c) 2=c:=rfl
    by_cases hlt:2 < sg.length
    ·have hjs:2 < (str sg).size:=by rw [f_d];exact hlt
     have hbt:(str sg)[2].toNat=(sg.getD 2 0).toNat:=by rw [e_6,e_v]
     have hcc:=HSC.out 2 hlt;have hv:kOk ((k:Int),a,b,c) m sg 2=b_V (sg.getD 2 0).toNat c m:=by rw [kOk,if_pos hlt];rfl
     have j1:¬ (sg.length:Int)≤2:=by omega
     have j2:2 < sg.length:=hlt;have j3:((2:Int)) < sg.length:=by omega
     clear hlt
     rcases hcc with hc | hc | hc
     ·rw [hc] at hv hbt;clear hc
      by_cases hlo:c < 0
      ·exact J8
      ·by_cases hhi:7 < c
       ·exact J8
       ·have hf:=N170;clear hv hoj;exact J27
     ·rw [hc] at hv hbt;clear hc
      by_cases hlo:c < -1000000000
      ·exact J8
      ·by_cases hhi:1000000000 < c
       ·exact J8
       ·have hf:=N170;clear hv hoj;exact J27
     ·rw [hc] at hv hbt;clear hc
      by_cases hlo:c < 0
      ·exact J8
      ·by_cases hhi:m < c
       ·exact J8
       ·have hf:=N170;clear hv hoj;exact J27
    ·have hv:=N238;have j1:(sg.length:Int)≤2:=by omega
     clear hlt hoj
     by_cases hz:c=0
     ·have hf:kOk ((k:Int),a,b,c) m sg 2=true:=by rw [hv];exact decide_eq_true hz
      have q:(c != 0)=false:=by simpa using hz
      clear hz hv;exact J27
     ·have hf:kOk ((k:Int),a,b,c) m sg 2=false:=by rw [hv];exact decide_eq_false hz
      have q:(c != 0)=true:=by simpa using hz
      clear hz hv;have HS:=hid (b_I (i:=((k:Int),a,b,c)) (m:=m) (k:=2) (by omega) (by rw [HOP.out];exact (hf)));clear hok hstep
      go_wp2_with fail
      refine (a_F ((k:Int),a,b,c) 2 _ (by omega)).mono ?_;rintro e w1 ⟨rfl,hb1⟩;rw [show e_f ((k:Int),a,b,c) 2=c from rfl];exact J12
   ·have HS:=N188;have HB2:=hid (a_a HB.out HBW.out);clear hok hstep HBW
    go_wp2
    go_ret
    exact a_i HS.out HB2.out
 ·have HS:=hid (o_P (i:=(op,a,b,c)) (m:=m) h0)
  go_enter Tryz.func33,Tryz.ntmps33
  go_upto_region 1 with fail
  rw [←HW.out];have x0:=(HX.out 0 _ rfl).1;have x1:=(HX.out 1 _ rfl).1;have x2:=(HX.out 2 _ rfl).1;have x3:=(HX.out 3 _ rfl).1
  go_wp2_with fail
  refine (n_e op _ h0).mono ?_;rintro e w1 ⟨rfl,hb1⟩;have HB1:=hid (a_a HB.out hb1);clear hb1 x0 x1 x2 x3
  go_wp2
  go_ret
  exact a_i HS.out HB1.out
theorem e_t (a:Option Addr) (n c:Nat) (cs:List Ins) (w:World) (S:Vs repIns Any w a n cs) (hn:n≤9223372036854775807) :
  Calls Tryz.prog 11 #[.slice a n c] w (a_1 (b_8 cs) w):=by
 have Hn:=hid S.1
 by_cases h6:n≤1000
 ·have i6:¬ (1000:Int) < n:=by omega
  go_enter Tryz.func11,Tryz.ntmps11
  go_wp2
  go_loopw [10] (fun i wr=>∃ k:Nat,k≤n∧i=.int .i64 k∧Hid (k_n cs n k)∧Below w.heap.size w wr) (fun i _=>n - (intOf i).toNat)
  case atStart=>exact ⟨0,by omega,rfl,(show k_n cs n 0 from fun q i hq=>by omega),Below.refl _ _⟩
  case round =>
   obtain ⟨k,hk,rfl,hf,hb⟩:=hrel;obtain ⟨wo,hwo⟩:∃ wo:World,wo=wr:=⟨_,rfl⟩;subst hwo
   by_cases hlt:k < n
   ·obtain ⟨b,o,x0,x1,x2,x3,rfl,hx,g0,g1,g2,g3⟩:=l_W (e_J hb S) hlt;have ⟨HX,HB⟩:=hh2 hx hb;have HB2:=N163;have i1:(0:Int)≤k:=by omega
    have i2:(k:Int) < n:=by omega
    clear hx hb;obtain ⟨mb,hmb⟩:=mn (c_Q (x0,x1,x2,x3) n);have HM:=hid hmb;clear hmb
    go_wp2_with fail
    have h0:=l_b (x0,x1,x2,x3) n (wo.alloc (Obj.cells #[.int .i64 x0,.int .i64 x1,.int .i64 x2,.int .i64 x3] 66));exact J58
   ·obtain rfl:k=n:=by omega
    have HB:=hid hb;clear hb
    go_wp2
    go_ret
    exact a_i (i_g Hn.out h6 hf.out) HB.out
 ·have i6:(1000:Int) < n:=by omega
  have HS:=hid (h_r (c:=cs) (by rw [Hn.out];exact h6));clear h6
  go_enter Tryz.func11,Tryz.ntmps11
  go_wp2
  go_ret
  exact a_i HS.out (Below.refl _ _)
theorem m_s {w:World} {fa la:Option Addr} {fn fc ln lc:Nat} {t:Thr} (h:ThQ Any w fa fn fc la ln lc t):ThQ (fun b=>Any b∧b < w.heap.size) w fa fn fc la ln lc t:=d_x h
theorem n_h (L:WoL) (X:Wo) (w:World) (R:RWo Any w L X) :
  Calls Tryz.prog 17 #[woV L X.D] w (a_1 (b_e X) w):=by
 obtain ⟨D,hD⟩:=mn (X.D);have HD:=hid hD;rw [hD];obtain ⟨W,hW⟩:=nm (w.alloc (Obj.cells (woC L D).toArray 33));have HX:=N162;have HB:=N3;have ⟨HW,HR⟩:=hh2 hW R;have HTN:=N147;have HBN:=hid (show X.bs.length=L.bs.n from R.bs.1);clear hW hD R;unfold woV
 go_enter Tryz.func17,Tryz.ntmps17
 go_upto_region 1 with fail
 rw [←HW.out];obtain ⟨x0,-⟩:=HX.out 0 _ rfl;have h0:=e_t L.co.a L.co.n L.co.c X.code W (b_f (fun _ _=>trivial) (b_H HB.out HR.out).co) (by have h:=HR.out.cco;unfold Sp.ok Cap at h;omega)
 cases hrc:b_8 X.code with
 | false =>
  exact J78
 | true =>
  rw [hrc] at h0;have ⟨HC,HRC⟩:=hh2 h0 hrc;clear h0 hrc
  go_wp2_with fail
  refine HC.out.mono ?_;clear HC x0;rintro e1 w1 ⟨rfl,hb1⟩;have HX1:=hid (a_h hb1 HX.out);have HB1:=hid (a_a HB.out hb1);have HR1:=hid (b_H HB1.out HR.out);clear hb1;obtain ⟨x1,-⟩:=HX1.out 1 _ rfl;obtain ⟨x2,-⟩:=HX1.out 2 _ rfl;obtain ⟨x3,-⟩:=HX1.out 3 _ rfl;obtain ⟨x4,-⟩:=HX1.out 4 _ rfl;obtain ⟨x5,-⟩:=HX1.out 5 _ rfl;have h0:=i_Y L.ws.a L.ts.a L.bs.a L.ws.n L.ws.c L.ts.n L.ts.c L.bs.n L.bs.c X.ws X.ts D X.bs w1 HR1.out.ws.sl HR1.out.ts.sl HR1.out.bs.bl
  cases hm:d_q X.ws X.ts D X.bs with
  | false =>
   exact J70
  | true =>
   rw [hm] at h0;have HC:=hid h0;have HM:=hid (show d_q X.ws X.ts X.D X.bs=true by rw [HD.out];exact hm);clear h0 hm
   go_wp2_with fail
   refine HC.out.mono ?_;clear HC x1 x2 x3 x4 x5;rintro e2 w2 ⟨rfl,hb2⟩;have HX2:=hid (a_h hb2 HX1.out);have HB2:=hid (a_a HB1.out hb2);clear hb2;obtain ⟨x4,-⟩:=HX2.out 4 _ rfl;obtain ⟨x5,-⟩:=HX2.out 5 _ rfl
   by_cases hl:L.th.n=L.bs.n
   ·have HBL:=hid hl;have hne:((L.th.n:Int) != (L.bs.n:Int))=false:=by simp [hl]
    clear hl;obtain ⟨b0,o0,t0,a0,c0,d0,e0,hta,-,-,-,-⟩:=N209;have HTA:=hid hta;rw [hta] at x5;obtain ⟨n,hn⟩:=mn (L.th.n);have HNL:=hid hn;rw [hn] at x5 hne;clear hta;clear hn
    go_wp2_with fail
    clear x4 x5 hne
    go_loopw [28] (fun i wr=>∃ k:Nat,k≤n∧i=.int .i64 k∧Hid (n_M X.th n k)∧Hid (Below w2.heap.size w2 wr)) (fun i _=>n - (intOf i).toNat)
    case atStart=>exact ⟨0,by omega,rfl,fun i t hi=>by omega,Below.refl _ _⟩
    case round =>
     obtain ⟨k,hk,rfl,ho,hb⟩:=hrel;have HB3:=hid (a_a HB2.out hb.out);have HX3:=hid (a_h hb.out HX2.out);have HR3:=hid (b_H HB3.out HR.out)
     by_cases hlt:k < n
     ·obtain ⟨tb,tq,t,ta,tc,qa,qc,htl,htt,-,T,hr⟩:=d_d HR3.out.th (k:=k) (by have:=HNL.out;omega);obtain ⟨x5,-⟩:=HX3.out 5 _ rfl;rw [HTA.out] at htl
      cases htl
      rw [HTA.out,HNL.out] at x5;obtain ⟨tn,htn⟩:=mn (t.fs.length);obtain ⟨tm,htm⟩:=mn (t.lf.length);rw [htn,htm] at T hr;have HRA:=hid (show wr.rangeAt b0 (o0+k*13) (thC t ta tn tc qa tm qc) from hr);have ⟨HTT,HTM,HT⟩:=hh3 htt htm T;have hsz:=hb.out.size;have HSZ:=hid (show w.heap.size < wr.heap.size from a_P HX3.out (by simp));obtain ⟨wo,hwo⟩:=nm (wr);subst hwo;have i1:(0:Int)≤k:=by omega
      have i2:(k:Int) < n:=by omega
      clear htt T hr htn htm
      go_upto_region 6 with (first | (refine wpList_load_mid rfl 46 _ rfl b0 (o0+k*13) rfl (thC t ta tn tc qa tm qc) _ HRA.out Tryz.underlying46 rfl (by kernel_rfl) ?_) | (refine a_d rfl 46 _ _ rfl wo.heap.size (thC t ta tn tc qa tm qc).toArray rfl rfl _ (a_e thN wo.heap.size rfl) rfl (by kernel_rfl) (a_M _ _ _ _ _ _ _) ?_;intro V HV))
      have HT2:=N178;have HX4:=N165;have HB4:=N207
      have HTV:=hid (show ThQ Any V ta tn tc qa tm qc t from by
       have hk:=N166;exact b_s (fun _ _=>trivial) (a_w hk (b_s (fun _ h=>h.2) (m_s HT.out))))
      clear HV HRA hsz x5 i1 i2;have h0:=i_X t ta qa tn tc tm qc V HTV.out.f
      cases hrt:a_Q t with
      | false =>
       exact J49
      | true =>
       exact J20
     ·exact J88
   ·exact J83
theorem f_Z (L:WoL) (X:Wo) (w:World) (R:RWo Any w L X) (G:Glob w) :
  Calls Tryz.prog 15 #[woV L X.D] w (a_1 (b_e X) w):=by
 obtain ⟨D,hD⟩:=mn (X.D);have HD:=hid hD;rw [hD];obtain ⟨W,hW⟩:=nm (w.alloc (Obj.cells (woC L D).toArray 33));have HX:=N162;have HB:=N3;have ⟨HW,HR⟩:=hh2 hW R;have HG:=hid (G.B HB.out);have HTN:=N147;have HBN:=hid (show X.bs.length=L.bs.n from R.bs.1);clear hW hD R G;unfold woV
 go_enter Tryz.func15,Tryz.ntmps15
 go_upto_region 1 with fail
 rw [←HW.out];obtain ⟨x0,-⟩:=HX.out 0 _ rfl;have h0:=g_v L.co.a L.co.n L.co.c X.code W (b_f (fun _ _=>trivial) (b_H HB.out HR.out).co) (by have h:=HR.out.cco;unfold Sp.ok Cap at h;omega) HG.out
 cases hrc:b_8 X.code with
 | false =>
  exact J78
 | true =>
  rw [hrc] at h0;have ⟨HC,HRC⟩:=hh2 h0 hrc;clear h0 hrc
  go_wp2_with fail
  refine HC.out.mono ?_;clear HC x0;rintro e1 w1 ⟨rfl,hb1⟩;have HX1:=hid (a_h hb1 HX.out);have HB1:=hid (a_a HB.out hb1);have HR1:=hid (b_H HB1.out HR.out);clear hb1;obtain ⟨x1,-⟩:=HX1.out 1 _ rfl;obtain ⟨x2,-⟩:=HX1.out 2 _ rfl;obtain ⟨x3,-⟩:=HX1.out 3 _ rfl;obtain ⟨x4,-⟩:=HX1.out 4 _ rfl;obtain ⟨x5,-⟩:=HX1.out 5 _ rfl;have h0:=i_4 L.ws.a L.ts.a L.bs.a L.ws.n L.ws.c L.ts.n L.ts.c L.bs.n L.bs.c X.ws X.ts D X.bs w1 HR1.out.ws.sl HR1.out.ts.sl HR1.out.bs.bl
  cases hm:d_q X.ws X.ts D X.bs with
  | false =>
   exact J70
  | true =>
   rw [hm] at h0;have HC:=hid h0;have HM:=hid (show d_q X.ws X.ts X.D X.bs=true by rw [HD.out];exact hm);clear h0 hm
   go_wp2_with fail
   refine HC.out.mono ?_;clear HC x1 x2 x3 x4 x5;rintro e2 w2 ⟨rfl,hb2⟩;have HX2:=hid (a_h hb2 HX1.out);have HB2:=hid (a_a HB1.out hb2);clear hb2;obtain ⟨x4,-⟩:=HX2.out 4 _ rfl;obtain ⟨x5,-⟩:=HX2.out 5 _ rfl
   by_cases hl:L.th.n=L.bs.n
   ·have HBL:=hid hl;have hne:((L.th.n:Int) != (L.bs.n:Int))=false:=by simp [hl]
    clear hl;obtain ⟨b0,o0,t0,a0,c0,d0,e0,hta,-,-,-,-⟩:=N209;have HTA:=hid hta;rw [hta] at x5;obtain ⟨n,hn⟩:=mn (L.th.n);have HNL:=hid hn;rw [hn] at x5 hne;clear hta;clear hn
    go_wp2_with fail
    clear x4 x5 hne
    go_loopw [28] (fun i wr=>∃ k:Nat,k≤n∧i=.int .i64 k∧Hid (n_M X.th n k)∧Hid (Below w2.heap.size w2 wr)) (fun i _=>n - (intOf i).toNat)
    case atStart=>exact ⟨0,by omega,rfl,fun i t hi=>by omega,Below.refl _ _⟩
    case round =>
     obtain ⟨k,hk,rfl,ho,hb⟩:=hrel;have HB3:=hid (a_a HB2.out hb.out);have HX3:=hid (a_h hb.out HX2.out);have HR3:=hid (b_H HB3.out HR.out)
     by_cases hlt:k < n
     ·obtain ⟨tb,tq,t,ta,tc,qa,qc,htl,htt,-,T,hr⟩:=d_d HR3.out.th (k:=k) (by have:=HNL.out;omega);obtain ⟨x5,-⟩:=HX3.out 5 _ rfl;rw [HTA.out] at htl
      cases htl
      rw [HTA.out,HNL.out] at x5;obtain ⟨tn,htn⟩:=mn (t.fs.length);obtain ⟨tm,htm⟩:=mn (t.lf.length);rw [htn,htm] at T hr;have HRA:=hid (show wr.rangeAt b0 (o0+k*13) (thC t ta tn tc qa tm qc) from hr);have ⟨HTT,HTM,HT⟩:=hh3 htt htm T;have hsz:=hb.out.size;have HSZ:=hid (show w.heap.size < wr.heap.size from a_P HX3.out (by simp));obtain ⟨wo,hwo⟩:=nm (wr);subst hwo;have i1:(0:Int)≤k:=by omega
      have i2:(k:Int) < n:=by omega
      clear htt T hr htn htm
      go_upto_region 6 with (first | (refine wpList_load_mid rfl 46 _ rfl b0 (o0+k*13) rfl (thC t ta tn tc qa tm qc) _ HRA.out Tryz.underlying46 rfl (by kernel_rfl) ?_) | (refine a_d rfl 46 _ _ rfl wo.heap.size (thC t ta tn tc qa tm qc).toArray rfl rfl _ (a_e thN wo.heap.size rfl) rfl (by kernel_rfl) (a_M _ _ _ _ _ _ _) ?_;intro V HV))
      have HT2:=N178;have HX4:=N165;have HB4:=N207
      have HTV:=hid (show ThQ Any V ta tn tc qa tm qc t from by
       have hk:=N166;exact b_s (fun _ _=>trivial) (a_w hk (b_s (fun _ h=>h.2) (m_s HT.out))))
      clear HV HRA hsz x5 i1 i2;have h0:=d_i t ta qa tn tc tm qc V HTV.out.f
      cases hrt:a_Q t with
      | false =>
       exact J49
      | true =>
       exact J20
     ·exact J88
   ·exact J83
end Go.Proofs.YtolabfafgbmdbaaGreatDoor
namespace Go.Proofs.YtolabfafgbmdbaaGreatDoor
open Go.ChangeShapes Go.WideShapes Go.ChangeAt Go.RowKit
open Gen
theorem o_B:(Tryz.prog.info? 101).map (fun i=>(i.zero,i.size,i.bytes))=some (some (.agg #[.int .i64 0,.int .i64 0,.int .i64 0,.int .i64 0,.int .i64 0,.int .i64 0]),6,48):=by kernel_rfl
theorem l_T {Q:Nat→Prop} {w:World} (ys:List Ev):d_y repEv Q w (ys.flatMap j_d) ys:=e_T (k:=6) (f:=j_d) (hk:=by decide) (hf:=fun _=>rfl) ys
theorem s_R (ys:List Ev):(ys.flatMap j_d).length=ys.length*6:=b_h (l_T (Q:=Any) (w:=default) ys)
theorem s_Y (ys:List Ev):∀ u∈ys.flatMap j_d,u.oneCell'=true:=by
 intro u hu;obtain ⟨y,_,h⟩:=List.mem_flatMap.1 hu;simp [j_d] at h;rcases h with rfl | rfl | rfl | rfl | rfl | rfl <;> rfl
theorem n_u {Q:Nat→Prop} {w:World} {a:Option Addr} {n:Nat} {ys:List Ev} (h:Vs repEv Q w a n ys):∀ b,a=some b→∀ j u,(ys.flatMap j_d)[j]?=some u→w.cell? (b.add j)=some u:=
 j_8 (k:=6) (f:=j_d) (hk:=by decide) (hf:=fun _=>rfl) h
theorem g_s {ops:Array Oper} {rest:List Oper} {o:Oper} {a:Act} {Q:Exit→Act→World→Prop} {w:World} (hgd:o.guard=none) (s x:Operand)
  (ho:o.op=.call { callee:=.builtin .append,args:=#[s,x],argTypes:=#[31,31] }) (base:Nat) (v:Value) (n:Nat) (xs:List Value) (hs:a.eval s=v) (hown:w.ownsRow base 101 6 v n xs)
  (fa:Option Addr) (m c:Nat) (ys:List Ev) (hx:a.eval x=.slice fa m c) (V:Vs repEv Any w fa m ys) (C:Cap fa m c) (hn:n+m≤1000000) (hbase:base≤w.heap.size)
  (h:∀ v' w',w'.ownsRow base 101 6 v' (n+m) (xs++ys.flatMap j_d)→w.grownBy w' v.ownBlock→wpList Tryz.prog ops Q rest (a.put o.dst v') w'):wpList Tryz.prog ops Q (o::rest) a w:=by
 obtain ⟨i0,hi,hz0,hz1,hz2⟩:=info_parts o_B
 cases fa with
 | none =>
  obtain rfl:c=0:=C.2.2 rfl;obtain rfl:m=0:=by have:=C.1;omega
  obtain rfl:ys=[]:=List.eq_nil_of_length_eq_zero V.1;refine wpList_append_own_none hgd s x 31 ho base 101 i0 6 Tryz.underlying31 hi v n xs hs hown hx (h v w ?_ (World.grownBy.refl _ _))
  simpa using hown
 | some p =>
  exact wpList_append_own w hgd s x 31 ho base 101 i0 (.agg #[.int .i64 0,.int .i64 0,.int .i64 0,.int .i64 0,.int .i64 0,.int .i64 0]) 6 48 Tryz.underlying31 hi hz0 hz1 hz2 rfl (by decide) v n xs hs hown p m c (ys.flatMap j_d) hx (by rw [s_R,V.1]) (n_u V p rfl) (s_Y _) (by unfold maxLen;omega) (by omega) hbase (fun v' w' h1 h2 _=>h v' w' h1 h2)
def WoL.setEv (L:WoL) (p:Sp):WoL:={ L with ev:=p }
theorem p_s {Q:Nat→Prop} {w:World} {L:WoL} {X:Wo} (R:RWo Q w L X) {p:Sp} {ev:List Ev} (V:Vs repEv Q w p.a p.n ev) (C:p.ok):RWo Q w (L.setEv p) { X with ev:=ev }:=⟨R.co,R.ws,R.ts,R.bs,R.th,V,R.cco,R.cth,C⟩
end Go.Proofs.YtolabfafgbmdbaaGreatDoor
namespace Go.Proofs.YtolabfafgbmdbaaGreatDoor
open Go.ChangeShapes Go.WideShapes Go.ChangeAt Go.RowKit
open Gen
open Lib (hid)
def g_V (e:TypeId) (sz n:Nat) (cs:List Value) (w:World) (en:Ending) (w':World):Prop:=∃ a c,en=.returned (.slice a n c)∧Cap a n c∧w'.ownsRow w.heap.size e sz (.slice a n c) n cs∧Below w.heap.size w w'
theorem e_Q {e:TypeId} {sz n:Nat} {cs:List Value} {v:Value} {w w':World} (h:w'.ownsRow w.heap.size e sz v n cs) (hb:Below w.heap.size w w'):g_V e sz n cs w (.returned v) w':=by
 obtain ⟨a,c,rfl⟩:=c_H h;refine ⟨a,c,rfl,?_,h,hb⟩
 rcases h.2 with ⟨h1,rfl⟩ | ⟨g,cap,cur,h1,-,-,h2,h3,-,-⟩
 ·cases h1;exact b_W
 ·cases h1;exact ⟨h2,by unfold maxLen at h3;omega,fun h=>by cases h⟩
theorem g_P {w:World} {B:Nat} {e:TypeId} {sz n c g:Nat} {cs:List Value} (h:w.ownsRow B e sz (.slice (some ⟨g,0,none⟩) n c) n cs):a_p w g cs:=by
 rcases h.2 with ⟨h1,-⟩ | ⟨g2,cap,cur,h1,-,h2,-,-,-,h3⟩
 ·cases h1
 ·cases h1
  intro i v hi;refine ⟨?_,by simp [World.frozen?,h2]⟩;rw [←h3,List.getElem?_take] at hi
  split at hi
  ·simp only [World.cell?,h2]
   simpa using hi
  ·cases hi
theorem s_L:(Tryz.prog.info? 3).map (fun i=>(i.zero,i.size,i.bytes))=some (some (.int .i64 0),1,8):=by kernel_rfl
theorem g_5 (a:Option Addr) (n c:Nat) (cs:List Value) (w:World) (hl:cs.length=n*1) (hs:∀ p,a=some p→∀ j u,cs[j]?=some u→w.cell? (p.add j)=some u) (h1:∀ u∈cs,u.oneCell'=true) (ha:a=none→n=0) (hn:n≤1000000) :
  Calls Tryz.prog 85 #[.slice a n c] w (g_V 3 1 n cs w):=by
 obtain ⟨i0,hi,hz0,hz1,hz2⟩:=info_parts s_L;have HI:=N60;have ⟨HL,HS,H1⟩:=hh3 hl hs h1;have q:=fun w=>d_Q 23 3 a n c Tryz.underlying23 w
 clear hi hz0 hz1 hz2 hl hs h1
 cases a with
 | none =>
  obtain rfl:n=0:=ha rfl;obtain rfl:cs=[]:=List.eq_nil_of_length_eq_zero (by have:=HL.out;omega);clear ha hn
  go_enter Tryz.func85,Tryz.ntmps85
  exact J68
 | some p =>
  clear ha
  go_enter Tryz.func85,Tryz.ntmps85
  go_wp2_with (at_builtin;refine wpList_append_own _ rfl _ _ 23 rfl w.heap.size 3 i0 (.int .i64 0) 1 8 Tryz.underlying23 HI.out.1 HI.out.2.1 HI.out.2.2.1 HI.out.2.2.2 rfl (by decide) _ 0 [] rfl (World.ownsRow_made w #[] 0 (Nat.le_refl _) (by decide) (by simp)) p n c cs rfl ?c1 ?c2 ?c3 ?c4 ?c5 ?c6 ?_)
  case c1=>exact HL.out
  case c2=>exact fun j u hj=>b_b _ (HS.out p rfl j u hj)
  case c3=>exact H1.out
  case c4=>unfold maxLen;omega
  case c5=>omega
  case c6=>simp
  intro v' w1 hown' hgrow _;have hb':=N85;have ⟨HO,HB⟩:=hh2 hown' hb';clear hown' hb' hgrow
  go_wp2
  go_ret
  exact e_Q HO.out HB.out
theorem q_Q:(Tryz.prog.info? 66).map (fun i=>(i.zero,i.size,i.bytes))=some (some (.agg #[.int .i64 0,.int .i64 0,.int .i64 0,.int .i64 0]),4,32):=by kernel_rfl
theorem g_y (a:Option Addr) (n c:Nat) (cs:List Value) (w:World) (hl:cs.length=n*4) (hs:∀ p,a=some p→∀ j u,cs[j]?=some u→w.cell? (p.add j)=some u) (h1:∀ u∈cs,u.oneCell'=true) (ha:a=none→n=0) (hn:n≤1000000) :
  Calls Tryz.prog 32 #[.slice a n c] w (g_V 66 4 n cs w):=by
 obtain ⟨i0,hi,hz0,hz1,hz2⟩:=info_parts q_Q;have HI:=N60;have ⟨HL,HS,H1⟩:=hh3 hl hs h1;have q:=fun w=>d_Q 22 66 a n c Tryz.underlying22 w
 clear hi hz0 hz1 hz2 hl hs h1
 cases a with
 | none =>
  obtain rfl:n=0:=ha rfl;obtain rfl:cs=[]:=List.eq_nil_of_length_eq_zero (by have:=HL.out;omega);clear ha hn
  go_enter Tryz.func32,Tryz.ntmps32
  exact J68
 | some p =>
  clear ha
  go_enter Tryz.func32,Tryz.ntmps32
  go_wp2_with (at_builtin;refine wpList_append_own _ rfl _ _ 22 rfl w.heap.size 66 i0 (.agg #[.int .i64 0,.int .i64 0,.int .i64 0,.int .i64 0]) 4 32 Tryz.underlying22 HI.out.1 HI.out.2.1 HI.out.2.2.1 HI.out.2.2.2 rfl (by decide) _ 0 [] rfl (World.ownsRow_made w #[] 0 (Nat.le_refl _) (by decide) (by simp)) p n c cs rfl ?c1 ?c2 ?c3 ?c4 ?c5 ?c6 ?_)
  case c1=>exact HL.out
  case c2=>exact fun j u hj=>b_b _ (HS.out p rfl j u hj)
  case c3=>exact H1.out
  case c4=>unfold maxLen;omega
  case c5=>omega
  case c6=>simp
  intro v' w1 hown' hgrow _;have hb':=((Below.refl w.heap.size w).alloc (Nat.le_refl _) (.cells #[] 66)).grown hgrow (by simp) (fun r hr=>by cases hr;simp);have ⟨HO,HB⟩:=hh2 hown' hb';clear hown' hb' hgrow
  go_wp2
  go_ret
  exact e_Q HO.out HB.out
theorem s_K:(Tryz.prog.info? 101).map (fun i=>(i.zero,i.size,i.bytes))=some (some (.agg #[.int .i64 0,.int .i64 0,.int .i64 0,.int .i64 0,.int .i64 0,.int .i64 0]),6,48):=by kernel_rfl
theorem k_z (a:Option Addr) (n c:Nat) (cs:List Value) (w:World) (hl:cs.length=n*6) (hs:∀ p,a=some p→∀ j u,cs[j]?=some u→w.cell? (p.add j)=some u) (h1:∀ u∈cs,u.oneCell'=true) (ha:a=none→n=0) (hn:n≤1000000) :
  Calls Tryz.prog 84 #[.slice a n c] w (g_V 101 6 n cs w):=by
 obtain ⟨i0,hi,hz0,hz1,hz2⟩:=info_parts s_K;have HI:=N60;have ⟨HL,HS,H1⟩:=hh3 hl hs h1;have q:=fun w=>d_Q 31 101 a n c Tryz.underlying31 w
 clear hi hz0 hz1 hz2 hl hs h1
 cases a with
 | none =>
  obtain rfl:n=0:=ha rfl;obtain rfl:cs=[]:=List.eq_nil_of_length_eq_zero (by have:=HL.out;omega);clear ha hn
  go_enter Tryz.func84,Tryz.ntmps84
  exact J68
 | some p =>
  clear ha
  go_enter Tryz.func84,Tryz.ntmps84
  go_wp2_with (at_builtin;refine wpList_append_own _ rfl _ _ 31 rfl w.heap.size 101 i0 (.agg #[.int .i64 0,.int .i64 0,.int .i64 0,.int .i64 0,.int .i64 0,.int .i64 0]) 6 48 Tryz.underlying31 HI.out.1 HI.out.2.1 HI.out.2.2.1 HI.out.2.2.2 rfl (by decide) _ 0 [] rfl (World.ownsRow_made w #[] 0 (Nat.le_refl _) (by decide) (by simp)) p n c cs rfl ?c1 ?c2 ?c3 ?c4 ?c5 ?c6 ?_)
  case c1=>exact HL.out
  case c2=>exact fun j u hj=>b_b _ (HS.out p rfl j u hj)
  case c3=>exact H1.out
  case c4=>unfold maxLen;omega
  case c5=>omega
  case c6=>simp
  intro v' w1 hown' hgrow _;have hb':=((Below.refl w.heap.size w).alloc (Nat.le_refl _) (.cells #[] 101)).grown hgrow (by simp) (fun r hr=>by cases hr;simp);have ⟨HO,HB⟩:=hh2 hown' hb';clear hown' hb' hgrow
  go_wp2
  go_ret
  exact e_Q HO.out HB.out
theorem q_R:(Tryz.prog.info? 55).map (fun i=>(i.zero,i.size,i.bytes))=some (some (.slice none 0 0),1,24):=by kernel_rfl
theorem j_u (a:Option Addr) (n c:Nat) (cs:List Value) (w:World) (hl:cs.length=n*1) (hs:∀ p,a=some p→∀ j u,cs[j]?=some u→w.cell? (p.add j)=some u) (h1:∀ u∈cs,u.oneCell'=true) (ha:a=none→n=0) (hn:n≤1000000) :
  Calls Tryz.prog 86 #[.slice a n c] w (g_V 55 1 n cs w):=by
 obtain ⟨i0,hi,hz0,hz1,hz2⟩:=info_parts q_R;have HI:=N60;have ⟨HL,HS,H1⟩:=hh3 hl hs h1;have q:=fun w=>d_Q 28 55 a n c Tryz.underlying28 w
 clear hi hz0 hz1 hz2 hl hs h1
 cases a with
 | none =>
  obtain rfl:n=0:=ha rfl;obtain rfl:cs=[]:=List.eq_nil_of_length_eq_zero (by have:=HL.out;omega);clear ha hn
  go_enter Tryz.func86,Tryz.ntmps86
  exact J68
 | some p =>
  clear ha
  go_enter Tryz.func86,Tryz.ntmps86
  go_wp2_with (at_builtin;refine wpList_append_own _ rfl _ _ 28 rfl w.heap.size 55 i0 (.slice none 0 0) 1 24 Tryz.underlying28 HI.out.1 HI.out.2.1 HI.out.2.2.1 HI.out.2.2.2 rfl (by decide) _ 0 [] rfl (World.ownsRow_made w #[] 0 (Nat.le_refl _) (by decide) (by simp)) p n c cs rfl ?c1 ?c2 ?c3 ?c4 ?c5 ?c6 ?_)
  case c1=>exact HL.out
  case c2=>exact fun j u hj=>b_b _ (HS.out p rfl j u hj)
  case c3=>exact H1.out
  case c4=>unfold maxLen;omega
  case c5=>omega
  case c6=>simp
  intro v' w1 hown' hgrow _;have hb':=((Below.refl w.heap.size w).alloc (Nat.le_refl _) (.cells #[] 55)).grown hgrow (by simp) (fun r hr=>by cases hr;simp);have ⟨HO,HB⟩:=hh2 hown' hb';clear hown' hb' hgrow
  go_wp2
  go_ret
  exact e_Q HO.out HB.out
theorem s_M:(Tryz.prog.info? 46).map (fun i=>(i.zero,i.size,i.bytes))=some (some (.agg thN.toArray),13,136):=by kernel_rfl
theorem k_A (a:Option Addr) (n c:Nat) (cs:List Value) (w:World) (hl:cs.length=n*13) (hs:∀ p,a=some p→∀ j u,cs[j]?=some u→w.cell? (p.add j)=some u) (h1:∀ u∈cs,u.oneCell'=true) (ha:a=none→n=0) (hn:n≤1000000) :
  Calls Tryz.prog 87 #[.slice a n c] w (g_V 46 13 n cs w):=by
 obtain ⟨i0,hi,hz0,hz1,hz2⟩:=info_parts s_M;have HI:=N60;have ⟨HL,HS,H1⟩:=hh3 hl hs h1;have q:=fun w=>d_Q 24 46 a n c Tryz.underlying24 w
 clear hi hz0 hz1 hz2 hl hs h1
 cases a with
 | none =>
  obtain rfl:n=0:=ha rfl;obtain rfl:cs=[]:=List.eq_nil_of_length_eq_zero (by have:=HL.out;omega);clear ha hn
  go_enter Tryz.func87,Tryz.ntmps87
  exact J68
 | some p =>
  clear ha
  go_enter Tryz.func87,Tryz.ntmps87
  go_wp2_with (at_builtin;refine wpList_append_own _ rfl _ _ 24 rfl w.heap.size 46 i0 (.agg thN.toArray) 13 136 Tryz.underlying24 HI.out.1 HI.out.2.1 HI.out.2.2.1 HI.out.2.2.2 rfl (by decide) _ 0 [] rfl (World.ownsRow_made w #[] 0 (Nat.le_refl _) (by decide) (by simp)) p n c cs rfl ?c1 ?c2 ?c3 ?c4 ?c5 ?c6 ?_)
  case c1=>exact HL.out
  case c2=>exact fun j u hj=>b_b _ (HS.out p rfl j u hj)
  case c3=>exact H1.out
  case c4=>unfold maxLen;omega
  case c5=>omega
  case c6=>simp
  intro v' w1 hown' hgrow _;have hb':=((Below.refl w.heap.size w).alloc (Nat.le_refl _) (.cells #[] 46)).grown hgrow (by simp) (fun r hr=>by cases hr;simp);have ⟨HO,HB⟩:=hh2 hown' hb';clear hown' hb' hgrow
  go_wp2
  go_ret
  exact e_Q HO.out HB.out
end Go.Proofs.YtolabfafgbmdbaaGreatDoor
