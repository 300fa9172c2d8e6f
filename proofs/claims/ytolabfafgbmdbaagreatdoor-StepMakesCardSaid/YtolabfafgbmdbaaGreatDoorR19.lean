import Derived.Test.YtolabfafgbmdbaaGreatDoorR7
import Derived.Test.YtolabfafgbmdbaaGreatDoorR0
import Derived.Test.YtolabfafgbmdbaaGreatDoorR18
import Derived.Test.YtolabfafgbmdbaaGreatDoorR15
import Derived.Test.YtolabfafgbmdbaaGreatDoorR5
import Derived.Test.YtolabfafgbmdbaaGreatDoorR13
import Derived.Test.YtolabfafgbmdbaaGreatDoorR2
import Derived.Test.YtolabfafgbmdbaaGreatDoorR8
import Derived.OpenShut
set_option maxRecDepth 100000
set_option maxHeartbeats 16000000
namespace Go.Proofs.YtolabfafgbmdbaaGreatDoor
open Go.ChangeShapes Go.WideShapes Go.ChangeAt Go.RowKit
open Gen
open Lib (hid)
theorem n_2:∀ k,k < 27→opName.getD k []≠[]:=by
 have h:(List.range 27).all (fun k=>decide (opName.getD k []≠[]))=true:=by kernel_rfl
 intro k hk
 simpa using List.all_eq_true.1 h k (List.mem_range.2 hk)
theorem j_c (i:Ins) (m:Int) (w:World):Calls Tryz.prog 33 #[p_S i,.int .i64 m] w (a_B (c_f i m) w):=by
 obtain ⟨op,a,b,c⟩:=i
 show Calls Tryz.prog 33 #[.agg #[.int .i64 op,.int .i64 a,.int .i64 b,.int .i64 c],.int .i64 m] w (a_B (c_f (op,a,b,c) m) w)
 obtain ⟨W,hW⟩:∃ W,W=w.alloc (Obj.cells #[.int .i64 op,.int .i64 a,.int .i64 b,.int .i64 c] 66):=⟨_,rfl⟩;have X:a_p W w.heap.size [.int .i64 op,.int .i64 a,.int .i64 b,.int .i64 c]:=by rw [hW];exact a_i _ _ rfl
 have hB:=N2;have ⟨HB,HW,HX⟩:=hh3 hB hW X;clear hW X hB
 by_cases h0:0≤op∧op < 27
 ·obtain ⟨k,rfl⟩:∃ k:Nat,op=(k:Int):=⟨op.toNat,by omega⟩;have hk:k < 27:=by omega
  obtain ⟨sg,hsg⟩:=mn (opSign.getD k []);obtain ⟨nm,hnm⟩:=mn (opName.getD k []);have hne:nm.isEmpty=false:=by rw [←Bool.not_eq_true,List.isEmpty_iff,←hnm];exact n_2 k hk
  obtain ⟨s1,s2⟩:=j_4 k hk;rw [hsg] at s1 s2;have hop:(opSign.getD ((k:Int),a,b,c).1.toNat [])=sg:=by rw [←hsg];rfl
  have ⟨HOP,HSC,H0⟩:=hh3 hop s2 h0;have hn1:=fun w'=>j_d k w' hk
  have hk1:=fun w'=>h_0 k w' hk
  simp only [hnm] at hn1;simp only [hsg] at hk1;clear hsg hop h0 s2 hk hnm
  go_enter Tryz.func33,Tryz.ntmps33
  go_upto_region 1 with fail
  rw [←HW.out];have x0:=(HX.out 0 _ rfl).1;have x1:=(HX.out 1 _ rfl).1;have x2:=(HX.out 2 _ rfl).1;have x3:=(HX.out 3 _ rfl).1
  go_wp2_with fail
  refine (hn1 _).mono ?_;rintro e w1 ⟨rfl,hb1⟩;have HX1:=hid (a_f hb1 HX.out);have HBW:=hid hb1;clear hb1 x0 x1 x2 x3;have x0:=(HX1.out 0 _ rfl).1;have x1:=(HX1.out 1 _ rfl).1;have x2:=(HX1.out 2 _ rfl).1;have x3:=(HX1.out 3 _ rfl).1
  go_wp2_with fail
  refine (hk1 _).mono ?_;rintro e w2 ⟨rfl,hb2⟩;have HBW2:=hid (a_b HBW.out hb2);clear hb2 x0 x1 x2 x3 HBW HX1 hk1 hn1 hne
  go_wp2
  go_loopw [6] (fun i wr=>∃ j:Nat,j≤3∧i=.int .i64 j∧Hid (∀ q,q < j→kOk (k,a,b,c) m sg q=true)∧Hid (Below W.heap.size W wr)) (fun i _=>3 - (intOf i).toNat)
  case atStart=>exact ⟨0,by omega,rfl,(show ∀ q,q < 0→_ from fun q hq=>by omega),HBW2.out⟩
  case round =>
   clear HBW2;obtain ⟨j,hj,rfl,hok,HBW⟩:=hrel
   have hstep:∀ {j:Nat},(∀ q,q < j→kOk (k,a,b,c) m sg q=true)→kOk (k,a,b,c) m sg j=true→∀ q,q < j+1→kOk (k,a,b,c) m sg q=true:=fun h1 h2 q hq=>by
    rcases Nat.lt_succ_iff_lt_or_eq.1 hq with h | rfl
    ·exact h1 q h
    ·exact h2
   have HXR:=hid (a_f HBW.out HX.out);have x0:=(HXR.out 0 _ rfl).1;have x1:=(HXR.out 1 _ rfl).1;have x2:=(HXR.out 2 _ rfl).1;have x3:=(HXR.out 3 _ rfl).1;clear HXR
   rcases (show j=0∨j=1∨j=2∨j=3 by omega) with rfl | rfl | rfl | rfl
   ·have hoj:c_6 ((k:Int),a,b,c) 0=a:=rfl
    by_cases hlt:0 < sg.length
    ·have hjs:0 < (str sg).size:=by rw [d_T];exact hlt
     have hbt:(str sg)[0].toNat=(sg.getD 0 0).toNat:=by rw [d_L,d_n]
     have hcc:=HSC.out 0 hlt;have hv:kOk ((k:Int),a,b,c) m sg 0=b_j (sg.getD 0 0).toNat a m:=by rw [kOk,if_pos hlt];rfl
     have j1:¬ sg=[]:=by intro e;subst e;simp at hlt
     have j2:0 < sg.length:=hlt;clear hlt
     rcases hcc with hc | hc | hc
     ·rw [hc] at hv hbt;clear hc
      by_cases hlo:a < 0
      ·exact J9
      ·by_cases hhi:7 < a
       ·exact J9
       ·have hf:=N68;clear hv hoj;exact J24
     ·rw [hc] at hv hbt;clear hc
      by_cases hlo:a < -1000000000
      ·exact J9
      ·by_cases hhi:1000000000 < a
       ·exact J9
       ·have hf:=N68;clear hv hoj;exact J24
     ·rw [hc] at hv hbt;clear hc
      by_cases hlo:a < 0
      ·exact J9
      ·by_cases hhi:m < a
       ·exact J9
       ·have hf:=N68;clear hv hoj;exact J24
    ·have hv:=N111;have j1:sg=[]:=List.eq_nil_of_length_eq_zero (by omega);clear hlt hoj;subst j1
     by_cases hz:a=0
     ·have hf:kOk ((k:Int),a,b,c) m [] 0=true:=by rw [hv];exact decide_eq_true hz
      have q:(a != 0)=false:=by simpa using hz
      clear hz hv;exact J24
     ·have hf:kOk ((k:Int),a,b,c) m [] 0=false:=by rw [hv];exact decide_eq_false hz
      have q:(a != 0)=true:=by simpa using hz
      clear hz hv;have HS:=hid (a_7 (i:=((k:Int),a,b,c)) (m:=m) (k:=0) (by omega) (by rw [HOP.out];exact (hf)));clear hok hstep
      go_wp2_with fail
      refine (a_t ((k:Int),a,b,c) 0 _ (by omega)).mono ?_;rintro e w1 ⟨rfl,hb1⟩;rw [show c_6 ((k:Int),a,b,c) 0=a from rfl];exact J11
   ·have hoj:c_6 ((k:Int),a,b,c) 1=b:=rfl
    by_cases hlt:1 < sg.length
    ·have hjs:1 < (str sg).size:=by rw [d_T];exact hlt
     have hbt:(str sg)[1].toNat=(sg.getD 1 0).toNat:=by rw [d_L,d_n]
     have hcc:=HSC.out 1 hlt;have hv:kOk ((k:Int),a,b,c) m sg 1=b_j (sg.getD 1 0).toNat b m:=by rw [kOk,if_pos hlt];rfl
     have j1:¬ (sg.length:Int)≤1:=by omega
     have j2:1 < sg.length:=hlt;have j3:((1:Int)) < sg.length:=by omega
     clear hlt
     rcases hcc with hc | hc | hc
     ·rw [hc] at hv hbt;clear hc
      by_cases hlo:b < 0
      ·exact J8
      ·by_cases hhi:7 < b
       ·exact J8
       ·have hf:=N69;clear hv hoj;exact J23
     ·rw [hc] at hv hbt;clear hc
      by_cases hlo:b < -1000000000
      ·exact J8
      ·by_cases hhi:1000000000 < b
       ·exact J8
       ·have hf:=N69;clear hv hoj;exact J23
     ·rw [hc] at hv hbt;clear hc
      by_cases hlo:b < 0
      ·exact J8
      ·by_cases hhi:m < b
       ·exact J8
       ·have hf:=N69;clear hv hoj;exact J23
    ·have hv:=N112;have j1:(sg.length:Int)≤1:=by omega
     clear hlt hoj
     by_cases hz:b=0
     ·have hf:kOk ((k:Int),a,b,c) m sg 1=true:=by rw [hv];exact decide_eq_true hz
      have q:(b != 0)=false:=by simpa using hz
      clear hz hv;exact J23
     ·have hf:kOk ((k:Int),a,b,c) m sg 1=false:=by rw [hv];exact decide_eq_false hz
      have q:(b != 0)=true:=by simpa using hz
      clear hz hv;have HS:=hid (a_7 (i:=((k:Int),a,b,c)) (m:=m) (k:=1) (by omega) (by rw [HOP.out];exact (hf)));clear hok hstep
      go_wp2_with fail
      refine (a_t ((k:Int),a,b,c) 1 _ (by omega)).mono ?_;rintro e w1 ⟨rfl,hb1⟩;rw [show c_6 ((k:Int),a,b,c) 1=b from rfl];exact J11
   ·have hoj:c_6 ((k:Int),a,b,c) 2=c:=rfl
    by_cases hlt:2 < sg.length
    ·have hjs:2 < (str sg).size:=by rw [d_T];exact hlt
     have hbt:(str sg)[2].toNat=(sg.getD 2 0).toNat:=by rw [d_L,d_n]
     have hcc:=HSC.out 2 hlt;have hv:kOk ((k:Int),a,b,c) m sg 2=b_j (sg.getD 2 0).toNat c m:=by rw [kOk,if_pos hlt];rfl
     have j1:¬ (sg.length:Int)≤2:=by omega
     have j2:2 < sg.length:=hlt;have j3:((2:Int)) < sg.length:=by omega
     clear hlt
     rcases hcc with hc | hc | hc
     ·rw [hc] at hv hbt;clear hc
      by_cases hlo:c < 0
      ·exact J7
      ·by_cases hhi:7 < c
       ·exact J7
       ·have hf:=N70;clear hv hoj;exact J22
     ·rw [hc] at hv hbt;clear hc
      by_cases hlo:c < -1000000000
      ·exact J7
      ·by_cases hhi:1000000000 < c
       ·exact J7
       ·have hf:=N70;clear hv hoj;exact J22
     ·rw [hc] at hv hbt;clear hc
      by_cases hlo:c < 0
      ·exact J7
      ·by_cases hhi:m < c
       ·exact J7
       ·have hf:=N70;clear hv hoj;exact J22
    ·have hv:=N113;have j1:(sg.length:Int)≤2:=by omega
     clear hlt hoj
     by_cases hz:c=0
     ·have hf:kOk ((k:Int),a,b,c) m sg 2=true:=by rw [hv];exact decide_eq_true hz
      have q:(c != 0)=false:=by simpa using hz
      clear hz hv;exact J22
     ·have hf:kOk ((k:Int),a,b,c) m sg 2=false:=by rw [hv];exact decide_eq_false hz
      have q:(c != 0)=true:=by simpa using hz
      clear hz hv;have HS:=hid (a_7 (i:=((k:Int),a,b,c)) (m:=m) (k:=2) (by omega) (by rw [HOP.out];exact (hf)));clear hok hstep
      go_wp2_with fail
      refine (a_t ((k:Int),a,b,c) 2 _ (by omega)).mono ?_;rintro e w1 ⟨rfl,hb1⟩;rw [show c_6 ((k:Int),a,b,c) 2=c from rfl];exact J11
   ·have HS:=N80;have HB2:=hid (a_b HB.out HBW.out);clear hok hstep HBW
    go_wp2
    go_ret
    exact a_e HS.out HB2.out
 ·have HS:=hid (l_8 (i:=(op,a,b,c)) (m:=m) h0)
  go_enter Tryz.func33,Tryz.ntmps33
  go_upto_region 1 with fail
  rw [←HW.out];have x0:=(HX.out 0 _ rfl).1;have x1:=(HX.out 1 _ rfl).1;have x2:=(HX.out 2 _ rfl).1;have x3:=(HX.out 3 _ rfl).1
  go_wp2_with fail
  refine (k_P op _ h0).mono ?_;rintro e w1 ⟨rfl,hb1⟩;have HB1:=hid (a_b HB.out hb1);clear hb1 x0 x1 x2 x3
  go_wp2
  go_ret
  exact a_e HS.out HB1.out
theorem e_u (a:Option Addr) (n c:Nat) (cs:List Ins) (w:World) (S:Vs repIns Any w a n cs) (hn:n≤9223372036854775807) :
  Calls Tryz.prog 11 #[.slice a n c] w (a_B (b_q cs) w):=by
 have Hn:=hid S.1
 by_cases h6:n≤1000
 ·have i6:¬ (1000:Int) < n:=by omega
  go_enter Tryz.func11,Tryz.ntmps11
  go_wp2
  go_loopw [10] (fun i wr=>∃ k:Nat,k≤n∧i=.int .i64 k∧Hid (i_q cs n k)∧Below w.heap.size w wr) (fun i _=>n - (intOf i).toNat)
  case atStart=>exact ⟨0,by omega,rfl,(show i_q cs n 0 from fun q i hq=>by omega),Below.refl _ _⟩
  case round =>
   obtain ⟨k,hk,rfl,hf,hb⟩:=hrel;obtain ⟨wo,hwo⟩:∃ wo:World,wo=wr:=⟨_,rfl⟩;subst hwo
   by_cases hlt:k < n
   ·obtain ⟨b,o,x0,x1,x2,x3,rfl,hx,g0,g1,g2,g3⟩:=o_F (e_h hb S) hlt;have ⟨HX,HB⟩:=hh2 hx hb;have HB2:=N65;have i1:(0:Int)≤k:=by omega
    have i2:(k:Int) < n:=by omega
    clear hx hb;obtain ⟨mb,hmb⟩:=mn (c_f (x0,x1,x2,x3) n);have HM:=hid hmb;clear hmb
    go_wp2_with fail
    have h0:=j_c (x0,x1,x2,x3) n (wo.alloc (Obj.cells #[.int .i64 x0,.int .i64 x1,.int .i64 x2,.int .i64 x3] 66));exact J45
   ·obtain rfl:k=n:=by omega
    have HB:=hid hb;clear hb
    go_wp2
    go_ret
    exact a_e (g_E Hn.out h6 hf.out) HB.out
 ·have i6:(1000:Int) < n:=by omega
  have HS:=hid (f_R (c:=cs) (by rw [Hn.out];exact h6));clear h6
  go_enter Tryz.func11,Tryz.ntmps11
  go_wp2
  go_ret
  exact a_e HS.out (Below.refl _ _)
theorem j_8 {w:World} {fa la:Option Addr} {fn fc ln lc:Nat} {t:Thr} (h:ThQ Any w fa fn fc la ln lc t):ThQ (fun b=>Any b∧b < w.heap.size) w fa fn fc la ln lc t:=m_S h
theorem k_R (L:WoL) (X:Wo) (w:World) (R:RWo Any w L X) :
  Calls Tryz.prog 17 #[woV L X.D] w (a_B (a_5 X) w):=by
 obtain ⟨D,hD⟩:=mn (X.D);have HD:=hid hD;rw [hD];obtain ⟨W,hW⟩:=nm (w.alloc (Obj.cells (woC L D).toArray 33));have HX:=N64;have HB:=N1;have ⟨HW,HR⟩:=hh2 hW R;have HTN:=N121;have HBN:=hid (show X.bs.length=L.bs.n from R.bs.1);clear hW hD R;unfold woV
 go_enter Tryz.func17,Tryz.ntmps17
 go_upto_region 1 with fail
 rw [←HW.out];obtain ⟨x0,-⟩:=HX.out 0 _ rfl;have h0:=e_u L.co.a L.co.n L.co.c X.code W (a_P (fun _ _=>trivial) (b_O HB.out HR.out).co) (by have h:=HR.out.cco;unfold Sp.ok Cap at h;omega)
 cases hrc:b_q X.code with
 | false =>
  exact J62
 | true =>
  rw [hrc] at h0;have ⟨HC,HRC⟩:=hh2 h0 hrc;clear h0 hrc
  go_wp2_with fail
  refine HC.out.mono ?_;clear HC x0;rintro e1 w1 ⟨rfl,hb1⟩;have HX1:=hid (a_f hb1 HX.out);have HB1:=hid (a_b HB.out hb1);have HR1:=hid (b_O HB1.out HR.out);clear hb1;obtain ⟨x1,-⟩:=HX1.out 1 _ rfl;obtain ⟨x2,-⟩:=HX1.out 2 _ rfl;obtain ⟨x3,-⟩:=HX1.out 3 _ rfl;obtain ⟨x4,-⟩:=HX1.out 4 _ rfl;obtain ⟨x5,-⟩:=HX1.out 5 _ rfl;have h0:=h_e L.ws.a L.ts.a L.bs.a L.ws.n L.ws.c L.ts.n L.ts.c L.bs.n L.bs.c X.ws X.ts D X.bs w1 HR1.out.ws.sl HR1.out.ts.sl HR1.out.bs.bl
  cases hm:c_P X.ws X.ts D X.bs with
  | false =>
   exact J55
  | true =>
   rw [hm] at h0;have HC:=hid h0;have HM:=hid (show c_P X.ws X.ts X.D X.bs=true by rw [HD.out];exact hm);clear h0 hm
   go_wp2_with fail
   refine HC.out.mono ?_;clear HC x1 x2 x3 x4 x5;rintro e2 w2 ⟨rfl,hb2⟩;have HX2:=hid (a_f hb2 HX1.out);have HB2:=hid (a_b HB1.out hb2);clear hb2;obtain ⟨x4,-⟩:=HX2.out 4 _ rfl;obtain ⟨x5,-⟩:=HX2.out 5 _ rfl
   by_cases hl:L.th.n=L.bs.n
   ·have HBL:=hid hl;have hne:((L.th.n:Int) != (L.bs.n:Int))=false:=by simp [hl]
    clear hl;obtain ⟨b0,o0,t0,a0,c0,d0,e0,hta,-,-,-,-⟩:=N93;have HTA:=hid hta;rw [hta] at x5;obtain ⟨n,hn⟩:=mn (L.th.n);have HNL:=hid hn;rw [hn] at x5 hne;clear hta;clear hn
    go_wp2_with fail
    clear x4 x5 hne
    go_loopw [28] (fun i wr=>∃ k:Nat,k≤n∧i=.int .i64 k∧Hid (l_e X.th n k)∧Hid (Below w2.heap.size w2 wr)) (fun i _=>n - (intOf i).toNat)
    case atStart=>exact ⟨0,by omega,rfl,fun i t hi=>by omega,Below.refl _ _⟩
    case round =>
     obtain ⟨k,hk,rfl,ho,hb⟩:=hrel;have HB3:=hid (a_b HB2.out hb.out);have HX3:=hid (a_f hb.out HX2.out);have HR3:=hid (b_O HB3.out HR.out)
     by_cases hlt:k < n
     ·obtain ⟨tb,tq,t,ta,tc,qa,qc,htl,htt,-,T,hr⟩:=d_1 HR3.out.th (k:=k) (by have:=HNL.out;omega);obtain ⟨x5,-⟩:=HX3.out 5 _ rfl;rw [HTA.out] at htl
      cases htl
      rw [HTA.out,HNL.out] at x5;obtain ⟨tn,htn⟩:=mn (t.fs.length);obtain ⟨tm,htm⟩:=mn (t.lf.length);rw [htn,htm] at T hr;have HRA:=hid (show wr.rangeAt b0 (o0+k*13) (thC t ta tn tc qa tm qc) from hr);have ⟨HTT,HTM,HT⟩:=hh3 htt htm T;have hsz:=hb.out.size;have HSZ:=hid (show w.heap.size < wr.heap.size from a_z HX3.out (by simp));obtain ⟨wo,hwo⟩:=nm (wr);subst hwo;have i1:(0:Int)≤k:=by omega
      have i2:(k:Int) < n:=by omega
      clear htt T hr htn htm
      go_upto_region 6 with (first | (refine wpList_load_mid rfl 46 _ rfl b0 (o0+k*13) rfl (thC t ta tn tc qa tm qc) _ HRA.out Tryz.underlying46 rfl (by kernel_rfl) ?_) | (refine a_h rfl 46 _ _ rfl wo.heap.size (thC t ta tn tc qa tm qc).toArray rfl rfl _ (a_i thN wo.heap.size rfl) rfl (by kernel_rfl) (a_V _ _ _ _ _ _ _) ?_;intro V HV))
      have HT2:=N73;have HX4:=N67;have HB4:=N91
      have HTV:=hid (show ThQ Any V ta tn tc qa tm qc t from by
       have hk:=N72;exact c_b (fun _ _=>trivial) (a_9 hk (c_b (fun _ h=>h.2) (j_8 HT.out))))
      clear HV HRA hsz x5 i1 i2;have h0:=h_d t ta qa tn tc tm qc V HTV.out.f
      cases hrt:b_c t with
      | false =>
       exact J38
      | true =>
       exact J15
     ·exact J72
   ·exact J67
theorem d_l (L:WoL) (X:Wo) (w:World) (R:RWo Any w L X) (G:Glob w) :
  Calls Tryz.prog 15 #[woV L X.D] w (a_B (a_5 X) w):=by
 obtain ⟨D,hD⟩:=mn (X.D);have HD:=hid hD;rw [hD];obtain ⟨W,hW⟩:=nm (w.alloc (Obj.cells (woC L D).toArray 33));have HX:=N64;have HB:=N1;have ⟨HW,HR⟩:=hh2 hW R;have HG:=hid (G.B HB.out);have HTN:=N121;have HBN:=hid (show X.bs.length=L.bs.n from R.bs.1);clear hW hD R G;unfold woV
 go_enter Tryz.func15,Tryz.ntmps15
 go_upto_region 1 with fail
 rw [←HW.out];obtain ⟨x0,-⟩:=HX.out 0 _ rfl;have h0:=e_9 L.co.a L.co.n L.co.c X.code W (a_P (fun _ _=>trivial) (b_O HB.out HR.out).co) (by have h:=HR.out.cco;unfold Sp.ok Cap at h;omega) HG.out
 cases hrc:b_q X.code with
 | false =>
  exact J62
 | true =>
  rw [hrc] at h0;have ⟨HC,HRC⟩:=hh2 h0 hrc;clear h0 hrc
  go_wp2_with fail
  refine HC.out.mono ?_;clear HC x0;rintro e1 w1 ⟨rfl,hb1⟩;have HX1:=hid (a_f hb1 HX.out);have HB1:=hid (a_b HB.out hb1);have HR1:=hid (b_O HB1.out HR.out);clear hb1;obtain ⟨x1,-⟩:=HX1.out 1 _ rfl;obtain ⟨x2,-⟩:=HX1.out 2 _ rfl;obtain ⟨x3,-⟩:=HX1.out 3 _ rfl;obtain ⟨x4,-⟩:=HX1.out 4 _ rfl;obtain ⟨x5,-⟩:=HX1.out 5 _ rfl;have h0:=h_j L.ws.a L.ts.a L.bs.a L.ws.n L.ws.c L.ts.n L.ts.c L.bs.n L.bs.c X.ws X.ts D X.bs w1 HR1.out.ws.sl HR1.out.ts.sl HR1.out.bs.bl
  cases hm:c_P X.ws X.ts D X.bs with
  | false =>
   exact J55
  | true =>
   rw [hm] at h0;have HC:=hid h0;have HM:=hid (show c_P X.ws X.ts X.D X.bs=true by rw [HD.out];exact hm);clear h0 hm
   go_wp2_with fail
   refine HC.out.mono ?_;clear HC x1 x2 x3 x4 x5;rintro e2 w2 ⟨rfl,hb2⟩;have HX2:=hid (a_f hb2 HX1.out);have HB2:=hid (a_b HB1.out hb2);clear hb2;obtain ⟨x4,-⟩:=HX2.out 4 _ rfl;obtain ⟨x5,-⟩:=HX2.out 5 _ rfl
   by_cases hl:L.th.n=L.bs.n
   ·have HBL:=hid hl;have hne:((L.th.n:Int) != (L.bs.n:Int))=false:=by simp [hl]
    clear hl;obtain ⟨b0,o0,t0,a0,c0,d0,e0,hta,-,-,-,-⟩:=N93;have HTA:=hid hta;rw [hta] at x5;obtain ⟨n,hn⟩:=mn (L.th.n);have HNL:=hid hn;rw [hn] at x5 hne;clear hta;clear hn
    go_wp2_with fail
    clear x4 x5 hne
    go_loopw [28] (fun i wr=>∃ k:Nat,k≤n∧i=.int .i64 k∧Hid (l_e X.th n k)∧Hid (Below w2.heap.size w2 wr)) (fun i _=>n - (intOf i).toNat)
    case atStart=>exact ⟨0,by omega,rfl,fun i t hi=>by omega,Below.refl _ _⟩
    case round =>
     obtain ⟨k,hk,rfl,ho,hb⟩:=hrel;have HB3:=hid (a_b HB2.out hb.out);have HX3:=hid (a_f hb.out HX2.out);have HR3:=hid (b_O HB3.out HR.out)
     by_cases hlt:k < n
     ·obtain ⟨tb,tq,t,ta,tc,qa,qc,htl,htt,-,T,hr⟩:=d_1 HR3.out.th (k:=k) (by have:=HNL.out;omega);obtain ⟨x5,-⟩:=HX3.out 5 _ rfl;rw [HTA.out] at htl
      cases htl
      rw [HTA.out,HNL.out] at x5;obtain ⟨tn,htn⟩:=mn (t.fs.length);obtain ⟨tm,htm⟩:=mn (t.lf.length);rw [htn,htm] at T hr;have HRA:=hid (show wr.rangeAt b0 (o0+k*13) (thC t ta tn tc qa tm qc) from hr);have ⟨HTT,HTM,HT⟩:=hh3 htt htm T;have hsz:=hb.out.size;have HSZ:=hid (show w.heap.size < wr.heap.size from a_z HX3.out (by simp));obtain ⟨wo,hwo⟩:=nm (wr);subst hwo;have i1:(0:Int)≤k:=by omega
      have i2:(k:Int) < n:=by omega
      clear htt T hr htn htm
      go_upto_region 6 with (first | (refine wpList_load_mid rfl 46 _ rfl b0 (o0+k*13) rfl (thC t ta tn tc qa tm qc) _ HRA.out Tryz.underlying46 rfl (by kernel_rfl) ?_) | (refine a_h rfl 46 _ _ rfl wo.heap.size (thC t ta tn tc qa tm qc).toArray rfl rfl _ (a_i thN wo.heap.size rfl) rfl (by kernel_rfl) (a_V _ _ _ _ _ _ _) ?_;intro V HV))
      have HT2:=N73;have HX4:=N67;have HB4:=N91
      have HTV:=hid (show ThQ Any V ta tn tc qa tm qc t from by
       have hk:=N72;exact c_b (fun _ _=>trivial) (a_9 hk (c_b (fun _ h=>h.2) (j_8 HT.out))))
      clear HV HRA hsz x5 i1 i2;have h0:=c_e t ta qa tn tc tm qc V HTV.out.f
      cases hrt:b_c t with
      | false =>
       exact J38
      | true =>
       exact J15
     ·exact J72
   ·exact J67
end Go.Proofs.YtolabfafgbmdbaaGreatDoor
namespace Go.Proofs.YtolabfafgbmdbaaGreatDoor
open Go.RowKit
theorem m_C {X:Wo} (h1:b_q X.code=true) (h2:c_P X.ws X.ts X.D X.bs=true) (h3:X.th.length=X.bs.length) (h4:∀ t∈X.th,h_a X.th.length t=true):a_5 X=true:=by
 simp only [a_5,Bool.and_eq_true,decide_eq_true_eq,List.all_eq_true];exact ⟨⟨⟨h1,h2⟩,h3⟩,h4⟩
theorem oneW_iff {n:Nat} {t:Thr}:h_a n t=true ↔ (0≤t.pc∧t.pc≤1000)∧c_a t.fs=true∧d_G t.st t.ft=true∧c_h t.lf=true∧(t.lf.length=0∨t.lf.length=n):=by
 simp only [h_a,b_c,Bool.and_eq_true,decide_eq_true_eq,and_assoc]
theorem j_o {X:Wo} {k:Nat} (hk:k < X.th.length):thW X k∈X.th:=by
 rw [thW,List.getD_eq_getElem?_getD,List.getElem?_eq_getElem hk];exact List.getElem_mem hk
theorem p_c {X:Wo} {pc:Int} (h0:0≤pc) (h1:pc < X.code.length):inW X pc∈X.code:=by
 exact J91
theorem c_Y {c:List Ins} (h:b_q c=true):c.length≤1000∧∀ i∈c,c_f i c.length=true:=by
 simpa only [b_q,Bool.and_eq_true,decide_eq_true_eq,List.all_eq_true] using h
theorem l_t {X:Wo} {k:Nat} (h:k_o X k=true):(thW X k).st=0:=by
 unfold k_o p_R at h
 split at h
 ·cases h
 ·rename_i h1;exact Classical.not_not.1 h1
def W64 (z:Int):Prop:=(Lit.int .i64 z).wf=true
theorem i_l {z:Int} (h0:-9223372036854775808≤z) (h1:z≤9223372036854775807):W64 z:=WalkArith.wf_i64 (by omega)
theorem d_u:W64 0:=i_l (by omega) (by omega)
theorem o_h (z:Int):W64 (wrap64 z):=RowKit.wrap64_wf z
theorem o_g (op:BinOp) (x y:Int):W64 (bits op .i64 x y):=wf_bits _ _ _ _
structure WfT (t:Thr):Prop where
  r:∀ j,W64 (t.r j)
  fs:∀ f∈t.fs,W64 f.2.1∧W64 f.2.2.1∧W64 f.2.2.2.1∧W64 f.2.2.2.2
structure WfW (X:Wo):Prop where
  code:∀ i∈X.code,W64 i.2.1∧W64 i.2.2.1∧W64 i.2.2.2
  ws:∀ z∈X.ws,W64 z
  bs:∀ b∈X.bs,∀ p∈b,W64 p.2
  th:∀ t∈X.th,WfT t
theorem k_a:WfT d_d:=⟨fun _=>d_u,fun f hf=>by cases hf⟩
theorem k_c {X:Wo} (h:WfW X) (k:Nat):WfT (thW X k):=by
  by_cases hk:k < X.th.length
  · exact h.th _ (j_o hk)
  · rw [thW,List.getD_eq_getElem?_getD,List.getElem?_eq_none (by omega)];exact k_a
theorem m_1 {X:Wo} (h:WfW X):∀ j k,k < 8→(Lit.int .i64 ((thW X j).r k)).wf=true:=fun j k _=>(k_c h j).r k
theorem c_O {X:Wo} (h:WfW X) {k:Nat} {t:Thr} (ht:WfT t):WfW (b_y X k t):=
  ⟨h.code,h.ws,h.bs,fun u hu=>by
    rcases List.mem_or_eq_of_mem_set hu with h1 | rfl
    · exact h.th u h1
    · exact ht⟩
theorem o_m {r:Nat→Int} {a v:Int} (h:∀ j,W64 (r j)) (hv:W64 v):∀ j,W64 (e_e r a v j):=fun j=>by
  unfold e_e;split
  · exact hv
  · exact h j
theorem j_u {t:Thr} {a v:Int} (h:WfT t) (hv:W64 v):WfT (d_P t a v):=⟨o_m h.r hv,h.fs⟩
theorem f_x {t:Thr} (h:WfT t):WfT (b_s t):=⟨h.r,h.fs⟩
theorem i_m {t:Thr} (h:WfT t) (a:Int):W64 (rgt t a):=h.r _
theorem q_v {t:Thr} {k:Int} {i:Ins} (h:WfT t) (hi:W64 i.2.1∧W64 i.2.2.1∧W64 i.2.2.2) (hk:W64 k):W64 (opV t k i):=by
  unfold opV
  repeat' split
  all_goals first | exact hi.2.1 | exact i_m h _ | exact o_h _ | exact o_g _ _ _ | exact hk | exact d_u | exact i_l (by omega) (by omega)
theorem q_s {t:Thr} {k:Int} {i:Ins} (h:WfT t) (hi:W64 i.2.1∧W64 i.2.2.1∧W64 i.2.2.2) (hk:W64 k):WfT (doT t k i):=by
  unfold doT brT goT g_c g_U
  repeat' split
  all_goals first
    | exact ⟨h.r,h.fs⟩
    | exact k_a
    | exact j_u h (q_v h hi hk)
    | (refine ⟨h.r,fun f hf=>?_⟩
       rcases List.mem_append.1 hf with h1 | h1
       · exact h.fs f h1
       · obtain rfl:=List.mem_singleton.1 h1
         exact ⟨h.r _,h.r _,h.r _,h.r _⟩)
    | (have hl:∀ f,f=g_3 t→W64 f.2.1∧W64 f.2.2.1∧W64 f.2.2.2.1∧W64 f.2.2.2.2:=by
         rintro f rfl;unfold g_3
         by_cases hq:t.fs.length - 1 < t.fs.length
         · rw [List.getD_eq_getElem?_getD,List.getElem?_eq_getElem hq];exact h.fs _ (List.getElem_mem hq)
         · rw [List.getD_eq_getElem?_getD,List.getElem?_eq_none (by omega)];exact ⟨d_u,d_u,d_u,d_u⟩
       refine ⟨fun j=>?_,fun f hf=>h.fs f (List.mem_of_mem_take hf)⟩;have hl:=hl _ rfl
       show W64 (k_Q t.r _ _ _ _ j)
       unfold k_Q
       repeat' split
       all_goals first | exact hl.1 | exact hl.2.1 | exact hl.2.2.1 | exact hl.2.2.2 | exact h.r j)
theorem p_L {ws:List Int} (h:∀ z∈ws,W64 z) (i:Nat):W64 (ws.getD i 0):=by
  by_cases hq:i < ws.length
  · rw [List.getD_eq_getElem?_getD,List.getElem?_eq_getElem hq];exact h _ (List.getElem_mem hq)
  · rw [List.getD_eq_getElem?_getD,List.getElem?_eq_none (by omega)];exact d_u
theorem h_n {ws ts:List Int} (h:∀ z∈ws,W64 z) (i:Int):W64 (b_T ws ts i):=by
  unfold b_T;split
  · exact p_L h _
  · exact d_u
theorem k_b {bs:List (List (Int×Int))} (h:∀ b∈bs,∀ p∈b,W64 p.2) (k:Int):∀ p∈e_l bs k,W64 p.2:=by
  unfold e_l
  by_cases hq:k.toNat < bs.length
  · rw [List.getD_eq_getElem?_getD,List.getElem?_eq_getElem hq];exact h _ (List.getElem_mem hq)
  · rw [List.getD_eq_getElem?_getD,List.getElem?_eq_none (by omega)];intro p hp;cases hp
theorem o_k {ws ts:List Int} {D:Int} {bs:List (List (Int×Int))} (h:∀ z∈ws,W64 z) (hb:∀ b∈bs,∀ p∈b,W64 p.2) (k x:Int):W64 (g_e ws ts D bs k x):=by
  unfold g_e;split
  · cases hn:b_A (e_l bs k) x with
    | none=>exact h_n h x
    | some v =>
      unfold b_A at hn
      cases hf:(e_l bs k).reverse.find? (fun p=>p.1==x) with
      | none=>rw [hf] at hn;cases hn
      | some p =>
        rw [hf] at hn
        cases hn
        exact k_b hb k p (List.mem_reverse.1 (List.mem_of_find?_eq_some hf))
  · exact d_u
theorem o_N {ws:List Int} (h:∀ z∈ws,W64 z) {i:Nat} {v:Int} (hv:W64 v):∀ z∈ws.set i v,W64 z:=fun z hz=>by
  rcases List.mem_or_eq_of_mem_set hz with h1 | rfl
  · exact h z h1
  · exact hv
theorem o_l {k word a b:Int} (hw:W64 word) (ha:W64 a) (hb:W64 b):W64 (d_s k word a b):=by
  unfold d_s
  repeat' split
  all_goals first | exact hb | exact hw | exact ha | exact wf_wrap .i64 _
theorem q_u {X:Wo} {k:Nat} {t:Thr} {i:Ins} (h:WfW X) (ht:WfT t) (hi:W64 i.2.1∧W64 i.2.2.1∧W64 i.2.2.2) (hk:W64 k):WfW (f_k X k t i):=by
  unfold f_k
  split
  · exact c_O h ⟨ht.r,ht.fs⟩
  · split
    · exact c_O h (q_s ht hi hk)
    · split
      · exact c_O h (j_u ht (o_k h.ws h.bs _ _))
      · split
        · have h1:=c_O (k:=k) h (f_x ht)
          refine ⟨h1.code,?_,?_,h1.th⟩
          · show ∀ z∈c_K X.ws X.D _ _,W64 z
            unfold c_K;split
            · exact o_N h.ws (i_m ht _)
            · exact h.ws
          · show ∀ b∈c_J X.D X.bs k _ _,_
            unfold c_J;split
            · exact h.bs
            · intro b hb p hp
              rcases List.mem_or_eq_of_mem_set hb with h2 | rfl
              · exact h.bs b h2 p hp
              · rcases List.mem_append.1 hp with h3 | h3
                · exact k_b h.bs _ p h3
                · obtain rfl:=List.mem_singleton.1 h3
                  exact i_m ht _
        · split
          · have h1:=c_O (k:=k) h (j_u (a:=i.2.1) ht (h_n (ts:=X.ts) h.ws (rgt t i.2.2.1)))
            exact ⟨h1.code,o_N h.ws (o_l (h_n h.ws _) (i_m ht _) (i_m ht _)),h1.bs,h1.th⟩
          · split
            · split
              · exact c_O h ⟨ht.r,ht.fs⟩
              · exact c_O h ⟨ht.r,ht.fs⟩
            · split
              · have h1:=c_O (k:=k) h (f_x ht)
                exact ⟨h1.code,h1.ws,h1.bs,h1.th⟩
              · split
                · have h1:=c_O (k:=k) h (f_x ht)
                  exact ⟨h1.code,h1.ws,h1.bs,h1.th⟩
                · exact c_O h (f_x ht)
theorem q_t {X:Wo} (h:WfW X) (pc:Int):W64 (inW X pc).2.1∧W64 (inW X pc).2.2.1∧W64 (inW X pc).2.2.2:=by
  unfold inW
  by_cases hq:pc.toNat < X.code.length
  · rw [List.getD_eq_getElem?_getD,List.getElem?_eq_getElem hq];exact h.code _ (List.getElem_mem hq)
  · rw [List.getD_eq_getElem?_getD,List.getElem?_eq_none (by omega)];exact ⟨d_u,d_u,d_u⟩
theorem p_M {X:Wo} {k:Nat} (h:WfW X) (hk:k < 1000):WfW (i_d X k):=by
  unfold i_d;split
  · exact q_u h (k_c h k) (q_t h _) (i_l (by omega) (by omega))
  · exact c_O h ⟨(k_c h k).r,(k_c h k).fs⟩
structure OkW (X:Wo) (m:Nat):Prop where
  right:a_5 X=true
  wf:WfW X
  ev:X.ev.length≤m
end Go.Proofs.YtolabfafgbmdbaaGreatDoor
