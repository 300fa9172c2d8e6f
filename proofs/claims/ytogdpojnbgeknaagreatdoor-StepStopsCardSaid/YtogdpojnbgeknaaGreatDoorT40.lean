import Derived.Test.YtogdpojnbgeknaaGreatDoorT38
import Derived.Test.YtogdpojnbgeknaaGreatDoorT39
import Derived.Test.YtogdpojnbgeknaaGreatDoorT0
set_option maxRecDepth 100000
set_option maxHeartbeats 16000000
namespace Go.Proofs.YtogdpojnbgeknaaGreatDoor
open Go.ChangeShapes Go.WideShapes Go.ChangeAt Go.RowKit
open Gen
open Lib (hid)
abbrev thZ (t:Thr):List Value:=thC t none 0 0 none 0 0
def Ths (n k:Nat) (starts:List Int) (TC:List Value):Prop:=TC.length=n*13∧∀ i,i < n→∀ j v,(thZ (if i < k then atT (starts.getD i 0) else d_E))[j]?=some v→TC[i*13+j]?=some v
theorem q_E (n:Nat) (h:n≤1000) (w:World):(Instr.makeSlice 24 (.int .i64 n) (.int .i64 n)).run Tryz.prog w=.ok (.slice (some ⟨w.heap.size,0,none⟩) n n) (w.alloc (.cells (madeCells (thZ d_E).toArray (n*13)) 46)):=by
 obtain ⟨i0,hi,hz0,hz1,hz2⟩:=info_parts l_I;have:=run_make (P:=Tryz.prog) w 24 46 i0 _ Tryz.underlying24 hi hz0 .i64 .i64 n n (by omega) (by omega) (by rw [hz2];omega) (by omega);rw [this,hz1,Int.toNat_natCast]
 rfl
theorem s_6 (n:Nat) (starts:List Int):Ths n 0 starts (madeCells (thZ d_E).toArray (n*13)).toList:=by
 refine ⟨by simp [madeCells],fun i hi j v hv=>?_⟩;rw [if_neg (Nat.not_lt_zero _)] at hv;have hj:j < 13:=(List.getElem?_eq_some_iff.1 hv).1;have e:(i*13+j) % 13=j:=by omega
 simp only [madeCells,Array.toList_map,Array.toList_range,List.getElem?_map,List.getElem?_range (show i*13+j < n*13 by omega),Option.map_some];rw [show ((thZ d_E).toArray).size=13 from rfl,e,getElem!_def,List.getElem?_toArray,hv]
theorem s_7 {n k:Nat} {starts:List Int} {TC:List Value} {s:Int} (h:Ths n k starts TC) (hk:k < n) (hs:starts.getD k 0=s):Ths n (k+1) starts (TC.set (k*13) (.int .i64 s)):=by
 refine ⟨by rw [List.length_set];exact h.1,fun i hi j v hv=>?_⟩;have hj:j < 13:=(List.getElem?_eq_some_iff.1 hv).1
 by_cases hik:i=k
 ·subst hik;rw [if_pos (Nat.lt_succ_self _),hs] at hv
  cases j with
  | zero =>
   rw [Nat.add_zero,List.getElem?_set_self (by have:=h.1;omega)];exact hv
  | succ j =>
   rw [List.getElem?_set_ne (by omega)];refine h.2 i hi (j+1) v ?_;rw [if_neg (Nat.lt_irrefl _)];exact hv
 ·rw [List.getElem?_set_ne (by omega)];refine h.2 i hi j v ?_
  by_cases h1:i < k
  ·rw [if_pos h1];rwa [if_pos (by omega)] at hv
  ·rw [if_neg h1];rwa [if_neg (by omega)] at hv
theorem s_5 {Q:Nat→Prop} {w:World} {n:Nat} {starts:List Int} {TC:List Value} (h:Ths n n starts TC) (hl:starts.length=n):d_s repTh Q w TC (starts.map atT):=by
 refine f_4 (by rw [h.1,List.length_map,hl];rfl) (fun i y hy=>?_);rw [List.getElem?_map] at hy;obtain ⟨s,hs,rfl⟩:=Option.map_eq_some_iff.1 hy;have hi:i < n:=by have:=(List.getElem?_eq_some_iff.1 hs).1;omega
 refine ⟨_,⟨none,0,none,0,rfl,r_W s⟩,fun j v hv=>h.2 i hi j v ?_⟩;rw [if_pos hi,List.getD_eq_getElem?_getD,hs];exact hv
def h_B (code:List Ins) (starts ws ts:List Int) (D:Int):Int:=if c_a code=true then (if e_y ws ts starts.length D=0 then (if starts.all (fun s=>decide (0≤s∧s≤code.length))=true then 0 else 3) else e_y ws ts starts.length D) else 1
def m_O (code:List Ins) (starts ws ts:List Int) (D:Int):Wo:=if h_B code starts ws ts D=0 then k_M code starts ws ts D else zWo
theorem e_n {code:List Ins} {starts ws ts:List Int} {D E:Int} {w w':World} {v:Value} (hE:h_B code starts ws ts D=E) (h0:E≠0) (hv:v=.tuple #[.agg woZ.toArray,.int .i64 E]) (hb:Below w.heap.size w w'):i_j (m_O code starts ws ts D) E w (.returned v) w':=by
 subst hv;rw [m_O,if_neg (by rw [hE];exact h0)];exact ⟨u_t,rfl,l_2,hb⟩
theorem m_Q {ws ts:List Int} {k D:Int} (h:e_y ws ts k D=0):d_g ws ts=true∧c_0 k D=true:=by
 unfold e_y at h
 split at h
 ·rename_i h1
  split at h
  ·rename_i h2;exact ⟨h1,h2⟩
  ·omega
 ·omega
theorem g_t {Q Q':Nat→Prop} {w w':World}:∀ {is:List Ins} {cs:List Value},d_s repIns Q w cs is→d_s repIns Q' w' cs is
 | [],_,h=>h
 | _::_,_,⟨c,d,e,h1,h2⟩=>⟨c,d,e,h1,g_t h2⟩
theorem l_x {S:Nat→Prop} {w w1:World} {p:Addr} {v:Value} (h:Bel S w w1) (hv:w.cell? p=some v) (hn:¬ S p.block):w1.cell? p=some v:=(World.cell?_of_block (h.block p.block (b_P hv) hn)).trans hv
theorem o_4 {w:World} {A B:Nat} {e:TypeId} {sz n:Nat} {v:Value} {cs:List Value} (hAB:A≤B) (h:w.ownsRow B e sz v n cs):w.ownsRow A e sz v n cs:=by
 obtain ⟨h1,h2 | ⟨g,cap,cur,a,b,c⟩⟩:=h
 ·exact ⟨h1,.inl h2⟩
 ·exact ⟨h1,.inr ⟨g,cap,cur,a,Nat.le_trans hAB b,c⟩⟩
def p_0 (h lo T k:Nat) (L M:WoL) (D:Int) (ccs:List Value):b_p:=[isV 0 (.slice L.co.a L.co.n L.co.c),([1],fun vz w=>∃ x c,vz=[.slice x L.co.n c]∧Cap x L.co.n c∧w.ownsRow lo 66 4 (.slice x L.co.n c) L.co.n ccs),isV 2 (.agg #[.slice M.ws.a M.ws.n M.ws.c,.slice M.ts.a M.ts.n M.ts.c,.int .i64 D,.slice M.bs.a M.bs.n M.bs.c]),isV 3 (.slice (some ⟨T,0,none⟩) k k),([1,4],fun vz _=>∃ x c,vz=[.slice x L.co.n c,.agg #[.slice x L.co.n c,.slice M.ws.a M.ws.n M.ws.c,.slice M.ts.a M.ts.n M.ts.c,.int .i64 D,.slice M.bs.a M.bs.n M.bs.c,.slice (some ⟨T,0,none⟩) k k,.slice none 0 0]]),([4],fun vz w=>∃ x c,vz=[.agg #[.slice x L.co.n c,.slice M.ws.a M.ws.n M.ws.c,.slice M.ts.a M.ts.n M.ts.c,.int .i64 D,.slice M.bs.a M.bs.n M.bs.c,.slice (some ⟨T,0,none⟩) k k,.slice none 0 0]]∧a_p w (h+1) [.slice x L.co.n c,.slice M.ws.a M.ws.n M.ws.c,.slice M.ts.a M.ts.n M.ts.c,.int .i64 D,.slice M.bs.a M.bs.n M.bs.c,.slice (some ⟨T,0,none⟩) k k,.slice none 0 0]),isV 6 (.int .i64 0)]
theorem o_j (h lo T k:Nat) (L M:WoL) (D:Int) (ccs:List Value):c_j (p_0 h lo T k  L M  D  ccs ):=a_d<|a_v (fun _ _ _ hb h=>by obtain ⟨x,c,h1,h2,h3⟩:=h;exact ⟨x,c,h1,h2,a_8 h3 hb⟩)<|a_d<|a_d<|a_v (fun _ _ _ _ h=>h)<|a_v (fun _ _ _ hb h=>by obtain ⟨x,c,h1,h2⟩:=h;exact ⟨x,c,h1,a_i hb h2⟩)<|a_d<|b_u
theorem q_n (h lo T k:Nat) (L M:WoL) (D:Int) (ccs:List Value):∀ jz args wz wz',jz≠1→jz≠5→b_x (p_0 h lo T k  L M  D  ccs ) jz args wz→b_x (p_0 h lo T k  L M  D  ccs ) jz args wz':=by
 intro jz args wz wz' n0 n1 h
 match jz with
 | 0=>exact h
 | 1=>exact absurd rfl n0
 | 2=>exact h
 | 3=>exact h
 | 4=>exact h
 | 5=>exact absurd rfl n1
 | 6=>exact h
 | _+7=>exact trivial
theorem k_6 (L:WoL) (code:List Ins) (ws ts starts:List Int) (D:Int) (sa:Option Addr) (sn sc:Nat) (w:World) (C:Vs repIns Any w L.co.a L.co.n code) (hc:L.co.ok) (W1:SlP Any w L.ws.a L.ws.n ws) (T1:SlP Any w L.ts.a L.ts.n ts) (S:Sl w sa sn starts) (G:Glob w) :
  Calls Tryz.prog 9 #[.slice L.co.a L.co.n L.co.c,.slice sa sn sc,.agg #[.slice L.ws.a L.ws.n L.ws.c,.slice L.ts.a L.ts.n L.ts.c],.int .i64 D] w (i_j (m_O code starts ws ts D) (h_B code starts ws ts D) w):=by
 have HSL:=hid (show starts.length=sn from S.1);have HCL:=hid (show code.length=L.co.n from C.1);obtain ⟨W,hW⟩:=nm ((w.alloc (Obj.cells #[.slice L.ws.a L.ws.n L.ws.c,.slice L.ts.a L.ts.n L.ts.c] 26)).alloc (Obj.cells woZ.toArray 33));have HM:=N98;have HZ:=N63;have HB:=N3;have HSZ:=N43;have ⟨HW,HCO,HWS,HTS,HS,HG,HCC⟩:=hh7 hW C W1 T1 S G hc;obtain ⟨E',hE'⟩:∃ E,h_B code starts ws ts D=E:=⟨_,rfl⟩;rw [hE'];have HE':=hid hE';obtain ⟨Y,hY⟩:=mn (m_O code starts ws ts D);rw [hY];have HY:=hid hY;have h0:=g_o L.co.a L.co.n L.co.c code W (a_z (a_C HB.out) C) (by have h:=hc;unfold Sp.ok Cap at h;omega) (G.B HB.out);clear hW C W1 T1 S hc G hE' hY
 go_enter Tryz.func9,Tryz.ntmps9
 go_upto_region 1 with fail
 rw [←HW.out]
 cases hrc:c_a code with
 | false =>
  rw [hrc] at h0;have HC:=hid h0;have HEV:=hid (show E'=1 by rw [←HE'.out,h_B,hrc,if_neg (by decide)]);clear h0 hrc
  go_wp2_with fail
  refine HC.out.mono ?_;clear HC;rintro e1 w1 ⟨rfl,hb1⟩;have HB1:=hid (a_b HB.out hb1);have HZ1:=hid (a_i hb1 HZ.out);clear hb1
  go_wp2_with (refine a_c rfl 33 _ _ rfl (w.heap.size+1) woZ.toArray rfl rfl _ HZ1.out rfl (by kernel_rfl) (by simp [Value.oneCell']) ?_;intro V HV)
  refine a_l ⟨w.heap.size+1,0,none⟩ rfl rfl rfl (a_E (show a_p V (w.heap.size+1) woZ by rw [HV.out];exact a_q HZ1.out rfl) 33 Tryz.underlying33 rfl (by kernel_rfl)) ?_;rw [←HY.out];exact e_n HE'.out (by rw [HEV.out];decide) (by rw [HEV.out];rfl) (by rw [HV.out];exact a_h (by omega) HB1.out)
 | true =>
  rw [hrc] at h0;have ⟨HC,HRC⟩:=hh2 h0 hrc;clear h0 hrc
  go_upto_region 3 with fail
  refine HC.out.mono ?_;clear HC;rintro e1 w1 ⟨rfl,hb1⟩;have HB1:=hid (a_b HB.out hb1);have HZ1:=hid (a_i hb1 HZ.out);have HM1:=hid (a_i hb1 HM.out);have HS1:=hid (show w.heap.size+2≤w1.heap.size by have:=hb1.size;have:=HSZ.out;omega);clear hb1;have h0:=n_h L.ws.a L.ts.a L.ws.n L.ws.c L.ts.n L.ts.c ws ts sn D w1 (slB HB1.out HWS.out.sl) (slB HB1.out HTS.out.sl);have HC:=hid h0;clear h0;obtain ⟨m0,-⟩:=HM1.out 0 _ rfl;obtain ⟨m1,-⟩:=HM1.out 1 _ rfl
  go_wp2_with fail
  refine HC.out.mono ?_;clear HC m0 m1;rintro e2 w2 ⟨a,na,ca,a',na',ca',q,ql,qd,rfl,F1,F2,F3,hb2⟩;have HB2:=hid (a_b HB1.out hb2);have HZ2:=hid (a_i hb2 HZ1.out);have HS2:=hid (show w.heap.size+2≤w2.heap.size by have:=hb2.size;have:=HS1.out;omega);have HF:=hid (And.intro F1 (And.intro F2 F3));clear hb2 F1 F2 F3;obtain ⟨E2,hE2⟩:=mn (e_y ws ts sn D);obtain ⟨D2,hD2⟩:=mn (m_P ws ts sn D);rw [hE2,hD2];have ⟨HE2,HD2⟩:=hh2 hE2 hD2;clear hE2 hD2
  go_upto_region 4 with (refine a_c rfl 30 _ _ rfl w2.heap.size #[.slice a na ca,.slice a' na' ca',.int .i64 D2,.slice q ql qd] rfl rfl _ (a_e [.slice none 0 0,.slice none 0 0,.int .i64 0,.slice none 0 0] w2.heap.size rfl) rfl (by kernel_rfl) (by simp [Value.oneCell']) ?_;intro U HU)
  have HTU:=hid (show a_p U w2.heap.size [.slice a na ca,.slice a' na' ca',.int .i64 D2,.slice q ql qd] by rw [HU.out];exact a_q (a_e [.slice none 0 0,.slice none 0 0,.int .i64 0,.slice none 0 0] _ rfl) rfl);have HBU:=hid (show Below w.heap.size w U by rw [HU.out];exact a_h HB2.out.size (HB2.out.alloc HB2.out.size _));have HZU:=N172;have HSU:=hid (show U.heap.size=w2.heap.size+1 by rw [HU.out,a_R];simp);have HKU:=hid (show Kept (fun b=>w1.heap.size≤b∧b < w2.heap.size) w2 U by rw [HU.out];exact a_6 (e_u _ _) (a_t (fun b hb=>by omega)));clear HU
  by_cases h0:E2=0
  ·obtain ⟨hm,hs⟩:=m_Q (HE2.out.trans h0);simp only [c_0,decide_eq_true_eq] at hs;have HN:=hid (show sn≤8 by omega);have HT:=hid (o_O hm (by simp only [c_0,decide_eq_true_eq];exact hs));clear hm hs;subst h0;have hmk:∀ w':World,(Instr.makeSlice 24 (.int .i64 sn) (.int .i64 sn)).run Tryz.prog w'=.ok (.slice (some ⟨w'.heap.size,0,none⟩) sn sn) (w'.alloc (.cells (madeCells (thZ d_E).toArray (sn*13)) 46)):=fun w'=>q_E sn (by have:=HN.out;omega) w'
   obtain ⟨V,hV⟩:=nm (U.alloc (.cells (madeCells (thZ d_E).toArray (sn*13)) 46));have HVV:=hid (show a_p V U.heap.size (madeCells (thZ d_E).toArray (sn*13)).toList by rw [hV];exact a_e (madeCells (thZ d_E).toArray (sn*13)).toList _ rfl);have HBV:=hid (show Below U.heap.size U V by rw [hV];go_grown);have HSV:=hid (show V.heap.size=U.heap.size+1 by rw [hV];simp);have HV:=hid hV;clear hV
   go_upto_region 7 with fail
   rw [←HV.out];obtain ⟨T,hT⟩:=mn (U.heap.size);have HTT:=hid hT;rw [hT] at HVV ⊢;clear hT hmk
   go_wp2_with fail
   go_loopw [36] (fun i wr=>∃ (k:Nat) (TC:List Value),k≤sn∧i=.int .i64 k∧Hid (a_p wr T TC)∧Hid (Ths sn k starts TC)∧Hid (∀ i,i < k→0≤starts.getD i 0∧starts.getD i 0≤L.co.n)∧Hid (Bel (fun c=>c=T) V wr)) (fun i _=>sn - (intOf i).toNat)
   case atStart=>exact ⟨0,_,Nat.zero_le _,rfl,HVV.out,s_6 _ _,fun i hi=>absurd hi (Nat.not_lt_zero _),d_m (Below.refl _ _)⟩
   case round =>
    obtain ⟨k,TC,hk,rfl,hvt,hth,hin,hbe⟩:=hrel;have HBX:=hid (show Below w.heap.size w V from HBU.out.trans (HBV.out.mono HBU.out.size));have HBR:=hid (show Below w.heap.size w wr from HBX.out.trans (hbe.out.below (fun c hc=>by have:=HTT.out;have:=HBU.out.size;omega) HBX.out.size));have HZR:=hid (hbe.out.varN (fun e=>by have:=HTT.out;have:=HSU.out;have:=HS2.out;omega) (a_i HBV.out HZU.out));have HTR:=hid (hbe.out.varN (fun e=>by have:=HTT.out;have:=HSU.out;omega) (a_i HBV.out HTU.out))
    by_cases hlt:k < sn
    ·obtain ⟨b,o,rfl,hrow⟩:=HS.out.2.resolve_left (by omega);obtain ⟨s,hs⟩:=mn (starts.getD k 0);have hk2:k < starts.length:=by have:=HSL.out;omega
     have hc:=a_u HBR.out (hrow k hk2);rw [hs] at hc;have HSS:=hid hs;have i1:(0:Int)≤k:=by omega
     have i2:(k:Int) < sn:=by omega
     have hwk:=N215;have hl:k*13 < TC.length:=by rw [hth.out.1];omega
     obtain ⟨zz,zf⟩:=hvt.out (k*13) _ (List.getElem?_eq_getElem hl);clear hrow hs
     by_cases h1:0≤s
     ·by_cases h2:s≤L.co.n
      ·have n1:¬ s < 0:=by omega
       have n2:¬ (L.co.n:Int) < s:=by omega
       go_wp2_with fail
       go_roundw
       case rel=>exact ⟨k+1,_,by omega,by go_num,a_A hvt.out (k*13) hl (.int .i64 s),s_7 hth.out hlt HSS.out,fun i hi=>by
        rcases Nat.lt_succ_iff_lt_or_eq.1 hi with h | rfl
        ·exact hin.out i h
        ·rw [HSS.out];exact ⟨h1,h2⟩,hbe.out.setCell (p:=⟨T,k*13,none⟩) rfl _⟩
       case measure=>rw [hwk];simp only [intOf];omega
      ·have n1:¬ s < 0:=by omega
       have n2:(L.co.n:Int) < s:=by omega
       exact J31
     ·have n1:s < 0:=by omega
      exact J31
    ·obtain rfl:k=sn:=by omega
     obtain ⟨M,hM⟩:∃ M:WoL,M=⟨zSp,⟨a,na,ca⟩,⟨a',na',ca'⟩,⟨q,ql,qd⟩,⟨some ⟨T,0,none⟩,k,k⟩,zSp⟩:=⟨_,rfl⟩;have HMM:=hid hM;obtain ⟨ccs,hc1,hc2⟩:=i_R (c_O HCO.out);have HTL:=hid (show w.heap.size+2≤T by have:=HTT.out;have:=HSU.out;have:=HS2.out;omega);have HVR:=hid hvt.out;have HFT:=hid (show ∀ w',d_s repTh (fun b=>w.heap.size≤b) w' TC (starts.map atT) from fun w'=>s_5 hth.out HSL.out);have HDD:=hid (show D2=D from HD2.out.symm.trans HT.out.2.2.2.1)
     have HFW:=hid (show SlP (fun b=>w.heap.size+2≤b) wr M.ws.a M.ws.n ws∧SlP (fun b=>w.heap.size+2≤b) wr M.ts.a M.ts.n ts∧BlP (fun b=>w.heap.size+2≤b) wr M.bs.a M.bs.n (List.replicate starts.length []) from by
      obtain ⟨f1,f2,f3⟩:=HF.out;obtain ⟨-,t1,t2,-,t4⟩:=HT.out;rw [t1] at f1;rw [t2] at f2;rw [t4,Int.toNat_natCast] at f3;have hs1:=HS1.out;have k1:Kept (fun b=>w1.heap.size≤b∧b < w2.heap.size) w2 wr:=a_6 HKU.out (a_6 (c_o HBV.out (fun b h=>by have:=HSU.out;have:=h.2;omega)) (c_o (F:=T) (hbe.out.below (fun c hc=>by omega) (by have:=HTT.out;have:=HBV.out.size;omega)) (fun b h=>by have:=HTT.out;have:=HSU.out;have:=h.2;omega)));rw [hM,HSL.out];exact ⟨a_n (fun b h=>by have:=h.1;omega) (a_r k1 (d_T (fun b q h=>⟨q,h⟩) (c_K (fun b h=>h) f1))),a_n (fun b h=>by have:=h.1;omega) (a_r k1 (d_T (fun b q h=>⟨q,h⟩) (c_K (fun b h=>h) f2))),a_H (fun b h=>by have:=h.1;omega) (a_G k1 (f_1 (fun b q h=>⟨q,h⟩) f3))⟩)
     have HEV:=hid (show E'=0 by
      have e2:=HE2.out;rw [←HSL.out] at e2;rw [←HE'.out,h_B,if_pos HRC.out,if_pos e2,if_pos];refine List.all_eq_true.2 (fun s hs=>?_);obtain ⟨i,hi,rfl⟩:=List.getElem_of_mem hs;have h:=hin.out i (by have:=HSL.out;omega);rw [List.getD_eq_getElem?_getD,List.getElem?_eq_getElem hi] at h;exact decide_eq_true (by rw [HCL.out];exact h))
     have HFC:=hid (b_m (c_o HBR.out (fun _ h=>h.2)) hc1);have HCLN:=hid (show ∀ w',Bel (fun c=>c=w.heap.size+1) wr w'→Calls Tryz.prog 32 #[.slice L.co.a L.co.n L.co.c] w' (g_O 66 4 L.co.n ccs w') from fun w' hw'=>g_r L.co.a L.co.n L.co.c ccs w' (by rw [b_f hc1,HCL.out];rfl) (fun p hp j u hu=>l_x hw' (a_u HBR.out (hc2 p hp j u hu)) (by have h:=b_P (hc2 p hp j u hu);show ¬ (p.add j).block=w.heap.size+1;omega)) (e_H hc1) (fun e=>by have h:=HCC.out;unfold Sp.ok Cap at h;have:=h.2.2 e;omega) (by have:=(d_n HRC.out).1;have:=HCL.out;omega));have HTE:=hid (show a_p wr w2.heap.size [.slice M.ws.a M.ws.n M.ws.c,.slice M.ts.a M.ts.n M.ts.c,.int .i64 D2,.slice M.bs.a M.bs.n M.bs.c] by rw [hM];exact HTR.out);have HGN:=hid (show ¬ (w2.heap.size=w.heap.size+1) by have:=HS2.out;omega);have HLO:=hid (show w.heap.size+1 < wr.heap.size by have:=a_P HZR.out (by simp);omega);have hG:=o_j w.heap.size wr.heap.size T k L M D2 ccs;clear hvt hc1 hc2 hlt hbe hM hth hin
     go_upto_region 14 with fail
     refine d_k [some 56,some 57,some 58,some 59,some 60,none,some 9] (fun w'=>Bel (fun c=>c=w.heap.size+1) wr w'∧∃ cs,cs.length=7∧a_p w' (w.heap.size+1) cs) (p_0 w.heap.size wr.heap.size T k L M D2 ccs) 100 100 (fun _ _ _=>True) (by kernel_rfl) (by kernel_rfl) (by decide) rfl (⟨d_m ((Below.refl _ _).drew),_,rfl,a_i ((Below.refl _ _).drew) HZR.out⟩) ?_ ?_
     ·show StepsL _ _ _ _ _ _ _
      refine InvD.c (fun _ _ w1 C _ hK=>oR C hK (h:=by simp [execOp,go_sem,C.o 0 (.slice L.co.a L.co.n L.co.c)])) ?_;refine InvD.c (fun a1 vals w1 C K hK=>?_) ?_
      ·have e0:=C.i 0;rw [a_M] at e0;refine a_g rfl (a_O _ _ _ rfl 32 rfl [.slice L.co.a L.co.n L.co.c] (by simp only [List.map_cons,List.map_nil,e0]) (by kernel_rfl) ((HCLN.out w1 C.base.1).mono ?_));rintro e9 w2x ⟨x,c,rfl,hcap,how,hb2⟩;refine ⟨_,rfl,hK _ w2x ⟨x,c,rfl,hcap,o_4 C.base.1.size how⟩ ⟨C.base.1.andB hb2,C.base.2.elim fun cs h=>⟨cs,h.1,a_i hb2 h.2⟩⟩ (fun j _ h=>hG j _ _ _ hb2 h) (fun _ _ _=>trivial) (fun _ _ _=>trivial) (fun _ _ _=>trivial) (fun _ _=>trivial)⟩
      refine InvD.c (fun a1 vals w1 C K hK=>?_) ?_
      ·have e0:=C.o 10 (.pointer (some ⟨w2.heap.size,0,none⟩));exact a_g rfl (wp_load_mid 30 _ rfl (w2.heap.size) (0) ((a_M a1 _).symm.trans e0) [.slice M.ws.a M.ws.n M.ws.c,.slice M.ts.a M.ts.n M.ts.c,.int .i64 D2,.slice M.bs.a M.bs.n M.bs.c] _ (a_f (C.base.1.varN HGN.out HTE.out)) Tryz.underlying30 rfl (by kernel_rfl) (c_Q hK C rfl rfl))
      refine InvD.c (fun _ _ w1 C _ hK=>oR C hK (h:=by simp [execOp,go_sem,C.o 12 (.slice (some ⟨T,0,none⟩) k k)])) ?_;refine InvD.c (fun a1 vals w1 C K hK=>?_) ?_
      ·have e1:=C.t 1 57 rfl rfl;have e2:=C.i 2;have e3:=C.i 3;obtain ⟨x,c,h1,-⟩:=C.says 1 rfl;have h1:vals 1=.slice x L.co.n c:=List.head_eq_of_cons_eq h1;rw [h1] at e1;refine a_g rfl (a_x (v:=.agg #[.slice x L.co.n c,.slice M.ws.a M.ws.n M.ws.c,.slice M.ts.a M.ts.n M.ts.c,.int .i64 D2,.slice M.bs.a M.bs.n M.bs.c,.slice (some ⟨T,0,none⟩) k k,.slice none 0 0]) ?_ (c_Q hK C rfl ⟨x,c,by show [vals 1,_]=_;rw [h1];rfl⟩));simp [execOp,go_sem,e1,e2,e3]
      refine InvD.c (fun a1 vals w1 C K hK=>?_) ?_
      ·have e0:a1.eval (.tmp 8)=.pointer (some ⟨w.heap.size+1,0,none⟩):=C.old 8 rfl;have e1:=C.v 4 60 rfl rfl;obtain ⟨x,c,h1⟩:=C.says 4 rfl;have h2:vals 4=.agg #[.slice x L.co.n c,.slice M.ws.a M.ws.n M.ws.c,.slice M.ts.a M.ts.n M.ts.c,.int .i64 D2,.slice M.bs.a M.bs.n M.bs.c,.slice (some ⟨T,0,none⟩) k k,.slice none 0 0]:=List.head_eq_of_cons_eq (List.tail_eq_of_cons_eq h1);rw [h2] at e1;obtain ⟨xs,hx1,hx2⟩:=C.base.2;refine a_g rfl (a_0 33 _ _ rfl (w.heap.size+1) #[.slice x L.co.n c,.slice M.ws.a M.ws.n M.ws.c,.slice M.ts.a M.ts.n M.ts.c,.int .i64 D2,.slice M.bs.a M.bs.n M.bs.c,.slice (some ⟨T,0,none⟩) k k,.slice none 0 0] e0 e1 xs hx2 (by rw [hx1];rfl) (by kernel_rfl) (by simp [Value.oneCell']) ?_);intro U HU;have hUx:a_p U (w.heap.size+1) [.slice x L.co.n c,.slice M.ws.a M.ws.n M.ws.c,.slice M.ts.a M.ts.n M.ts.c,.int .i64 D2,.slice M.bs.a M.bs.n M.bs.c,.slice (some ⟨T,0,none⟩) k k,.slice none 0 0]:=by rw [HU.out];exact a_q hx2 (by rw [hx1];rfl)
       refine hK _ U ⟨x,c,by show [vals 4]=_;rw [h2],hUx⟩ ⟨by rw [HU.out];exact e_h (S:=fun c=>c=w.heap.size+1) rfl C.base.1,_,rfl,hUx⟩ (fun jz hj h=>?_) (fun _ _ _=>trivial) (fun _ _ _=>trivial) (fun _ _ _=>trivial) (fun _ _=>trivial)
       by_cases j1:jz=1
       ·subst j1;obtain ⟨x,c,q1,q2,q3⟩:=h;exact ⟨x,c,q1,q2,by rw [HU.out];exact a_Z (fun e=>by have:=(a_9 q3 e).1;have:=HLO.out;omega) q3⟩
       ·exact q_n _ _ _ _ _ _ _ _ _ _ _ _ j1 hj h
      refine InvD.c (fun a1 vals w1 C K hK=>?_) ?_
      ·refine a_g rfl (a_x (v:=.int .i64 0) ?_ (c_Q hK C rfl rfl));simp [execOp,go_sem,]
      exact StepsL.nil
     ·intro vals w1 hb hv hbo;obtain ⟨x,c,a1,a2,a3⟩:=c_f rfl (hv 1 (by decide));obtain ⟨x2,c2,b1⟩:=c_f rfl (hv 4 (by decide));obtain ⟨x3,c3,d1,d2⟩:=c_f rfl (hv 5 (by decide));have y6:vals 6=.int .i64 0:=List.head_eq_of_cons_eq (hv 6 (by decide));have a1:vals 1=.slice x L.co.n c:=List.head_eq_of_cons_eq a1;have b2:vals 4=_:=List.head_eq_of_cons_eq (List.tail_eq_of_cons_eq b1);have b1:vals 1=_:=List.head_eq_of_cons_eq b1;have d1:vals 4=_:=List.head_eq_of_cons_eq d1;rw [a1] at b1;rw [b2] at d1
      cases b1
      simp only [Value.agg.injEq,Array.mk.injEq,List.cons.injEq,Value.slice.injEq] at d1;obtain ⟨⟨rfl,-,rfl⟩,-⟩:=d1;simp only [c_I,Act.put,sA,sB,sC,y6];have HX:=hid d2;have HB9:=hid (show Below w.heap.size w w1 from HBR.out.trans (hb.1.below (fun c hc=>by omega) HBR.out.size));have HK9:=hid (show Kept (fun b=>w.heap.size+2≤b) wr w1 from fun b o v hq hv=>l_x hb.1 hv (by show ¬ b=w.heap.size+1;omega));have HVT:=hid (show a_p w1 T TC from hb.1.varN (by have:=HTL.out;omega) HVR.out)
      have HRW:=hid (show RWo (fun b=>w.heap.size≤b) w1 ⟨⟨x,L.co.n,c⟩,M.ws,M.ts,M.bs,⟨some ⟨T,0,none⟩,k,k⟩,zSp⟩ (k_M code starts ws ts D) from by
       have T1:=i_S (Q:=fun b=>w.heap.size≤b) HVT.out (HFT.out w1) (by have:=HTL.out;omega);rw [List.length_map,HSL.out] at T1;exact ⟨o_5 a3 (g_t HFC.out) HCL.out (fun q h=>by have:=(a_9 a3 h).1;have:=HLO.out;omega),a_n (fun b h=>by omega) (a_r HK9.out HFW.out.1),a_n (fun b h=>by omega) (a_r HK9.out HFW.out.2.1),a_H (fun b h=>by omega) (a_G HK9.out HFW.out.2.2),T1,d_c,a2,⟨Nat.le_refl _,by have:=HN.out;show k≤_;omega,fun e=>by cases e⟩,b_T⟩)
      clear hb hv hbo y6 d2 a1 a2 a3 b2 b1 hG
      go_wp2_with fail
      refine a_l ⟨w.heap.size+1,0,none⟩ rfl rfl rfl (a_E HX.out 33 Tryz.underlying33 rfl (by kernel_rfl)) ?_;have HYN:=HY.out;rw [m_O,if_pos (HE'.out.trans HEV.out)] at HYN;subst HYN;exact ⟨_,by rw [HEV.out,HDD.out];rfl,HRW.out,HB9.out⟩
  ·have hb:(E2 != 0)=true:=by simpa using h0
   have HEV:=hid (show E'=E2 by
    have e2:=HE2.out;rw [←HSL.out] at e2;rw [←HE'.out,h_B,if_pos HRC.out,if_neg (by rw [e2];exact h0)];exact e2)
   have H0:=hid h0;clear h0
   go_wp2_with (refine a_c rfl 33 _ _ rfl (w.heap.size+1) woZ.toArray rfl rfl _ HZU.out rfl (by kernel_rfl) (by simp [Value.oneCell']) ?_;intro Z HZZ)
   refine a_l ⟨w.heap.size+1,0,none⟩ rfl rfl rfl (a_E (show a_p Z (w.heap.size+1) woZ by rw [HZZ.out];exact a_q HZU.out rfl) 33 Tryz.underlying33 rfl (by kernel_rfl)) ?_;rw [←HY.out];exact e_n HE'.out (by rw [HEV.out];exact H0.out) (by rw [HEV.out];rfl) (by rw [HZZ.out];exact a_h (by omega) HBU.out)
def r_8 (h:Nat) (a a':Option Addr) (n n' c c' m m':Nat):b_p:=[isV 0 (.slice a n c),isV 1 (.slice a n c),isV 2 (.int .i64 n),isV 3 (.int .i64 m),isV 4 (.slice a m c),isV 5 (.slice a' n' c'),isV 6 (.slice a' n' c'),isV 7 (.int .i64 n'),isV 8 (.int .i64 m'),isV 9 (.slice a' m' c'),isV 10 (.agg #[.slice a m c,.slice a' m' c']),([],fun _ w=>a_p w h [.slice a m c,.slice a' m' c'])]
theorem q_m (h:Nat) (a a':Option Addr) (n n' c c' m m':Nat):∀ jz args wz wz',jz≠11→b_x (r_8 h  a a'  n n' c c' m m' ) jz args wz→b_x (r_8 h  a a'  n n' c c' m m' ) jz args wz':=by
 intro jz args wz wz' n0 h
 match jz with
 | 0=>exact h
 | 1=>exact h
 | 2=>exact h
 | 3=>exact h
 | 4=>exact h
 | 5=>exact h
 | 6=>exact h
 | 7=>exact h
 | 8=>exact h
 | 9=>exact h
 | 10=>exact h
 | 11=>exact absurd rfl n0
 | _+12=>exact trivial
theorem q_H (a a':Option Addr) (n n' c c':Nat) (w:World) (h1:n≤c∧c≤9223372036854775807) (h2:n'≤c'∧c'≤9223372036854775807) :
  Calls Tryz.prog 8 #[.slice a n c,.slice a' n' c'] w (fun e w'=>e=.returned (.agg #[.slice a (min n 170) c,.slice a' (min n' 170) c'])∧Below w.heap.size w w'):=by
 obtain ⟨W,hW⟩:=nm (w.alloc (Obj.cells #[.slice none 0 0,.slice none 0 0] 26));have HZ:=hid (show a_p W w.heap.size [.slice none 0 0,.slice none 0 0] by rw [hW];exact a_e [.slice none 0 0,.slice none 0 0] _ rfl);have HB:=N3;have HW:=hid hW;obtain ⟨m,hm⟩:=mn (min n 170);obtain ⟨m',hm'⟩:∃ m,min n' 170=m:=⟨_,rfl⟩;rw [hm,hm'];have HM1:=hid (show (if (170:Int) < (n:Int) then (170:Int) else (n:Int))=(m:Int) by split <;> omega);have HM2:=hid (show (if (170:Int) < (n':Int) then (170:Int) else (n':Int))=(m':Int) by split <;> omega);have i1:m≤c:=by omega
 have i2:m'≤c':=by omega
 clear hW hm hm' h1 h2
 go_enter Tryz.func8,Tryz.ntmps8
 go_upto_region 1 with fail
 rw [←HW.out];refine d_k [some 5,some 6,some 7,some 8,some 9,some 10,some 11,some 12,some 13,some 14,some 15,none] (fun w'=>Bel (fun c=>c=w.heap.size) W w'∧∃ cs,cs.length=2∧a_p w' w.heap.size cs) (r_8 w.heap.size a a' n n' c c' m m') 100 100 (fun _ _ _=>True) (by kernel_rfl) (by kernel_rfl) (by decide) rfl (⟨d_m ((Below.refl _ _).drew),_,rfl,a_i ((Below.refl _ _).drew) HZ.out⟩) ?_ ?_
 ·show StepsL _ _ _ _ _ _ _
  refine InvD.c (fun _ _ w1 C _ hK=>oR C hK (h:=by simp [execOp,go_sem,C.o 0 (.slice a n c)])) ?_;refine InvD.c (fun _ _ w1 C _ hK=>oR C hK (h:=by simp [execOp,go_sem,C.o 0 (.slice a n c)])) ?_;refine InvD.c (fun a1 vals w1 C K hK=>?_) ?_
  ·have e0:=C.i 1;refine a_g rfl (a_x (v:=.int .i64 n) ?_ (c_Q hK C rfl rfl));simp [go_sem,e0]
  refine InvD.c (fun a1 vals w1 C K hK=>?_) ?_
  ·have e0:=C.i 2;refine a_g rfl (a_x (v:=.int .i64 m) ?_ (c_Q hK C rfl rfl));simp [go_sem,e0,HM1.out]
  refine InvD.c (fun _ _ w1 C _ hK=>oR C hK (h:=by simp [execOp,go_sem,C.i 0,C.i 3,i1])) ?_;refine InvD.c (fun _ _ w1 C _ hK=>oR C hK (h:=by simp [execOp,go_sem,C.o 1 (.slice a' n' c')])) ?_;refine InvD.c (fun _ _ w1 C _ hK=>oR C hK (h:=by simp [execOp,go_sem,C.o 1 (.slice a' n' c')])) ?_;refine InvD.c (fun a1 vals w1 C K hK=>?_) ?_
  ·have e0:=C.i 6;refine a_g rfl (a_x (v:=.int .i64 n') ?_ (c_Q hK C rfl rfl));simp [go_sem,e0]
  refine InvD.c (fun a1 vals w1 C K hK=>?_) ?_
  ·have e0:=C.i 7;refine a_g rfl (a_x (v:=.int .i64 m') ?_ (c_Q hK C rfl rfl));simp [go_sem,e0,HM2.out]
  refine InvD.c (fun _ _ w1 C _ hK=>oR C hK (h:=by simp [execOp,go_sem,C.i 5,C.i 8,i2])) ?_;refine InvD.c (fun _ _ w1 C _ hK=>oR C hK (h:=by simp [execOp,go_sem,C.i 4,C.i 9])) ?_;refine InvD.c (fun a1 vals w1 C K hK=>?_) ?_
  ·have e0:a1.eval (.tmp 4)=.pointer (some ⟨w.heap.size,0,none⟩):=C.old 4 rfl;have e1:=C.i 10;rw [a_M] at e1;obtain ⟨xs,hx1,hx2⟩:=C.base.2;refine a_g rfl (a_0 26 _ _ rfl w.heap.size #[.slice a m c,.slice a' m' c'] e0 e1 xs hx2 (by rw [hx1];rfl) (by kernel_rfl) (by simp [Value.oneCell']) ?_);intro U HU;have hUx:a_p U w.heap.size [.slice a m c,.slice a' m' c']:=by rw [HU.out];exact a_q hx2 (by rw [hx1];rfl)
   exact hK _ U hUx ⟨by rw [HU.out];exact e_h (S:=fun c=>c=w.heap.size) rfl C.base.1,_,rfl,hUx⟩ (fun jz hj h=>q_m _ _ _ _ _ _ _ _ _ _ _ _ _ hj h) (fun _ _ _=>trivial) (fun _ _ _=>trivial) (fun _ _ _=>trivial) (fun _ _=>trivial)
  exact StepsL.nil
 ·intro vals w1 hb hv hbo;have d:=c_f rfl (hv 11 (by decide));have HX:=hid (show a_p w1 w.heap.size [.slice a m c,.slice a' m' c'] from d);have HB9:=hid (show Below w.heap.size w w1 from HB.out.trans (hb.1.below (fun c hc=>by omega) HB.out.size));clear hb hv hbo d i1 i2;simp only [c_I,Act.put,sA,sB,sC]
  go_wp2_with fail
  refine a_V ⟨w.heap.size,0,none⟩ rfl rfl rfl (a_E HX.out 26 Tryz.underlying26 rfl (by kernel_rfl)) ?_;exact ⟨rfl,HB9.out⟩
end Go.Proofs.YtogdpojnbgeknaaGreatDoor
