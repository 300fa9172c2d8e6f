import Derived.Test.YtolabfafgbmdbaaGreatDoorQ28
import Derived.Maps.AppendAt
import Derived.Test.YtolabfafgbmdbaaGreatDoorQ0
import Derived.Test.YtolabfafgbmdbaaGreatDoorQ30
import Derived.Deep.DeepCutAuto
set_option maxRecDepth 100000
set_option maxHeartbeats 16000000
namespace Go.Proofs.YtolabfafgbmdbaaGreatDoor
open Go.ChangeShapes Go.WideShapes Go.ChangeAt Go.RowKit
open Gen
open Lib (hid)
def g_0 (bs:List (List (Int×Int))) (k:Nat):List Int:=(bs.take k).map fun b=>(b.length:Int)
theorem m_B {bs:List (List (Int×Int))} {k:Nat} (h:k < bs.length):g_0 bs (k+1)=g_0 bs k++(((bs.getD k []).length:Nat):Int)::[]:=by
 rw [g_0,List.take_succ_eq_append_getElem h,List.map_append,List.getD_eq_getElem?_getD,List.getElem?_eq_getElem h];rfl
theorem n_Z (X:Wo):g_0 X.bs X.bs.length=b_5 X:=by rw [g_0,List.take_length];rfl
theorem t_Y:(Tryz.prog.info? 3).map (fun i=>(i.zero,i.size,i.bytes))=some (some (.int .i64 0),1,8):=by kernel_rfl
theorem u_s (w:World) (g:Nat) (hg:g=w.heap.size) (x:Value) (t:TypeId):∀ j u,[x][j]?=some u→(w.alloc (.cells #[x] t)).cell? ((⟨g,0,none⟩:Addr).add j)=some u:=by
 intro j u hu;rw [Gen.add_plain,Nat.zero_add];exact (a_e (w:=w) [x] (t:=t) g hg j u hu).1
theorem p_x {k:Nat} {w:World} {B:Nat} {e:TypeId} {v:Value} {n:Nat} {xs:List Value} (h:w.ownsRow B e k v n xs):∃ a c,v=.slice a n c:=by
 exact J71
theorem m_E (Q:Nat→Prop) (L:WoL) (X:Wo) (j:Nat) (w:World) (R:RWo Q w L X) (hj:j < L.th.n) (hQ:∀ b,w.heap.size≤b→Q b) (hn:L.th.n≤1000) (hbm:L.bs.n≤1000) (hpc:0≤(thW X j).pc∧(thW X j).pc≤1000) :
  Calls Tryz.prog 58 #[woV L X.D,.int .i64 j] w (b_D Q (g_w X j (thW X j)) w):=by
 obtain ⟨Y,hY⟩:=mn (g_w X j (thW X j));rw [hY];obtain ⟨D,hD⟩:=mn (X.D);rw [hD];obtain ⟨tb,tq,t,ta,tc,qa,qc,htl,htt,-,T,hr⟩:=d_d R.th hj;have htw:=N53;rw [htw] at hY;have HTW:=hid htw;rw [htw] at hpc;have ⟨HP,HBM⟩:=hh2 hpc hbm;clear hpc hbm;obtain ⟨tn,htn⟩:=mn (t.fs.length);obtain ⟨tm,htm⟩:=mn (t.lf.length);have HTN:=hid (And.intro htn htm);obtain ⟨Q1,hQ1⟩:∃ Q1:Nat→Prop,Q1=fun b=>Q b∧(b < w.heap.size∨w.heap.size+3≤b):=⟨_,rfl⟩
 have HQ1:=hid hQ1;have HQ2:=N30;have HR1:=N42;have HT1:=N36;obtain ⟨W,hW⟩:=nm ((w.alloc (Obj.cells (woC L D).toArray 33)).alloc (Obj.cells woZ.toArray 33));have HX:=N52;have HZ:=N64;have HB:=N3;have HSZ:=N44;have HRA:=N28;have ⟨HW,HY,HTL,HD,HN⟩:=hh5 hW hY htl hD hn;rw [htn,htm] at HT1;have i1:(0:Int)≤j:=by omega
 have i2:(j:Int) < L.th.n:=by omega
 clear htl hY hD htt T hr htn htm hQ1 R hW htw hQ hn;unfold woV
 go_enter Tryz.func58,Tryz.ntmps58
 go_upto_region 1 with fail
 rw [←HW.out];obtain ⟨k5,-⟩:=HX.out 5 _ rfl;rw [HTL.out] at k5
 go_upto_region 2 with (first | (refine wpList_load_mid rfl 46 _ rfl tb (tq+j*13) rfl (thC t ta tn tc qa tm qc) _ HRA.out Tryz.underlying46 rfl (by kernel_rfl) ?_) | (refine a_d rfl 46 _ _ rfl W.heap.size (thC t ta tn tc qa tm qc).toArray rfl rfl _ (a_e thN W.heap.size rfl) rfl (by kernel_rfl) (a_M _ _ _ _ _ _ _) ?_;intro V HV))
 rw [HSZ.out];simp only [Act.put];have HX2:=N31;have HZ2:=N74;have HT2:=N90;have HB2:=N27;have HS2:=N120;clear HV HX HZ HB HSZ HRA HW k5 i1 i2;have HT3:=N65;have HR3:=N109;obtain ⟨c12,g12⟩:=HT2.out 12 _ rfl
 by_cases ht0:0 < tm
 ·have i3:(0:Int) < tm:=by omega
  have HYF:=hid (show b_k X j (⟨t.pc+1,t.r,t.fs,t.st,t.ft,[]⟩:Thr)=Y by rw [←HY.out,g_w,if_neg (by have:=HTN.out.2;omega)];rfl);have hp1:0≤t.pc:=HP.out.1;have hp2:t.pc≤1000:=HP.out.2;obtain ⟨z0,f0⟩:=HT2.out 0 _ rfl;obtain ⟨V2,hV2⟩:=nm (((V.setCell ⟨(w.heap.size+2),12,none⟩ (.slice none 0 0)).setCell ⟨(w.heap.size+2),0,none⟩ (.int .i64 (t.pc+1))));have HX2s:=hid (show a_p V2 (w.heap.size) _ by rw [hV2];exact (a_m (g':=(w.heap.size+2)) (o:=0) (a_m (g':=(w.heap.size+2)) (o:=12) HX2.out (by omega) (.slice none 0 0)) (by omega) (.int .i64 (t.pc+1))));have HZ2s:=hid (show a_p V2 (w.heap.size+1) _ by rw [hV2];exact (a_m (g':=(w.heap.size+2)) (o:=0) (a_m (g':=(w.heap.size+2)) (o:=12) HZ2.out (by omega) (.slice none 0 0)) (by omega) (.int .i64 (t.pc+1))));have HT2s:=hid (show a_p V2 ((w.heap.size+2)) (thC (⟨t.pc+1,t.r,t.fs,t.st,t.ft,[]⟩:Thr) ta tn tc none 0 0) by have h:=(a_A (a_A HT2.out 12 (by simp) (.slice none 0 0)) 0 (by simp) (.int .i64 (t.pc+1)));rw [hV2];exact h);have hkV2:Kept Q1 V V2:=by rw [hV2];exact (a_4 (a_V _ _ _ (fun b hb=>by show b≠(w.heap.size+2);have:=HQ2.out.2.1 b hb;omega)) (a_V _ _ _ (fun b hb=>by show b≠(w.heap.size+2);have:=HQ2.out.2.1 b hb;omega)))
  have HB2s:=hid (show Below w.heap.size w V2 by rw [hV2];exact ((HB2.out.setCell (p:=⟨(w.heap.size+2),12,none⟩) (by show _≤(w.heap.size+2);omega) _).setCell (p:=⟨(w.heap.size+2),0,none⟩) (by show _≤(w.heap.size+2);omega) _));have HZV2:=hid (show V2.heap.size=V.heap.size by rw [hV2];simp);have HV2:=hid hV2;clear hV2
  go_upto_region 5 with fail
  rw [←HV2.out];clear c12 g12 z0 f0 hp1 hp2 i3
  have h0:Calls Tryz.prog 53 #[woV L D,.int .i64 j,thV ((⟨t.pc+1,t.r,t.fs,t.st,t.ft,[]⟩:Thr)) ta tn tc none 0 0] V2 (b_D Q1 Y V2):=by
   have h:=c_V Q1 L X j ((⟨t.pc+1,t.r,t.fs,t.st,t.ft,[]⟩:Thr)) ta tc none 0 V2 (a_C hkV2 HR3.out) (by rw [show ((⟨t.pc+1,t.r,t.fs,t.st,t.ft,[]⟩:Thr)).fs.length=tn from HTN.out.1,show ((⟨t.pc+1,t.r,t.fs,t.st,t.ft,[]⟩:Thr)).lf.length=0 from rfl];exact ⟨(a_w hkV2 HT3.out).fcap,(a_w hkV2 HT3.out).fs,b_W,d_h⟩) (fun b hb=>HQ2.out.2.2 b (by have:=HZV2.out;have:=HS2.out;omega)) HN.out;rw [show ((⟨t.pc+1,t.r,t.fs,t.st,t.ft,[]⟩:Thr)).fs.length=tn from HTN.out.1,show ((⟨t.pc+1,t.r,t.fs,t.st,t.ft,[]⟩:Thr)).lf.length=0 from rfl,HD.out,HYF.out] at h;exact h
  have HYD:=N93;have HC:=hid h0;clear h0
  go_wp2_with (first | (refine wpList_load_mid rfl 33 _ rfl (w.heap.size) 0 rfl (woC L D) _ (a_g HX2s.out) Tryz.underlying33 rfl (by kernel_rfl) ?_) | (refine wpList_load_mid rfl 46 _ rfl (w.heap.size+2) 0 rfl (thC ((⟨t.pc+1,t.r,t.fs,t.st,t.ft,[]⟩:Thr)) ta tn tc none 0 0) _ (a_g HT2s.out) Tryz.underlying46 rfl (by kernel_rfl) ?_))
  refine HC.out.mono ?_;rintro e9 w9 ⟨L9,rfl,R9,hb9⟩;have HZ9:=hid (a_h hb9 HZ2s.out);have HB9:=hid (a_a HB2s.out hb9);have HR9:=hid R9;clear hb9 R9 HC;rw [HYD.out]
  go_wp2_with (refine a_d rfl 33 _ _ rfl (w.heap.size+1) (woC L9 D).toArray rfl rfl _ HZ9.out rfl (by kernel_rfl) (b_u _ _) ?_;intro U HU)
  have HZ10:=N26;refine a_X ⟨w.heap.size+1,0,none⟩ rfl rfl rfl (a_E HZ10.out 33 Tryz.underlying33 rfl (by kernel_rfl)) ?_;have hkU:=N8;exact a_Z (L:=L9) (by rw [HYD.out]) (a_D HQ2.out.1 (a_C hkU HR9.out)) (by rw [HU.out];exact a_j (by omega) HB9.out)
 ·have ht1:t.lf.length=0:=by have:=HTN.out.2;omega
  obtain rfl:tm=0:=by omega
  have HYF:=hid (show b_k X j (⟨t.pc,t.r,t.fs,t.st,t.ft,b_5 X⟩:Thr)=Y by rw [←HY.out,g_w,if_pos ht1]);obtain ⟨j0,ki,kz0,kz1,kz2⟩:=info_parts t_Y;have HJ:=N73;have HBL:=hid HR3.out.bs.1;obtain ⟨bn,hbn⟩:=mn (L.bs.n);obtain ⟨ba,hba⟩:=mn (L.bs.a);obtain ⟨bc,hbc⟩:=mn (L.bs.c);have HBN:=hid (show bn≤1000 by rw [←hbn];exact HBM.out);have HBR:=hid (show BlP Q1 V ba bn X.bs by rw [←hbn,←hba];exact HR3.out.bs);obtain ⟨x4,-⟩:=(a_s (Obj.cells #[] 3) HX2.out) 4 _ rfl;rw [hba,hbn,hbc] at x4;have HBL2:=hid (show X.bs.length=bn by rw [HBL.out,hbn]);clear ki kz0 kz1 kz2 ht1 ht0 hba hbn hbc HBL
  go_wp2_with fail
  clear c12 g12 x4
  go_loopw [6,32] (fun v i wr=>∃ (k:Nat) (va:Option Addr) (vc:Nat),k≤bn∧i=.int .i64 k∧v=.slice va k vc∧Hid (wr.ownsRow V.heap.size 3 1 (.slice va k vc) k ((g_0 X.bs k).map (.int .i64)))∧Below V.heap.size V wr) (fun _ i _=>bn - (intOf i).toNat)
  case atStart=>exact ⟨0,_,_,Nat.zero_le _,rfl,rfl,(show V.alloc (Obj.cells #[] 3) |>.ownsRow V.heap.size 3 1 (.slice (some ⟨V.heap.size,0,none⟩) 0 0) 0 [] from World.ownsRow_lit V #[] 0 (Nat.le_refl _) (by decide) rfl),(Below.refl _ _).alloc (Nat.le_refl _) _⟩
  case round =>
   obtain ⟨k,va,vc,hk,rfl,rfl,ho,hb⟩:=hrel;have hsz:=hb.size;have HB5:=hid hb
   by_cases hlt:k < bn
   ·obtain ⟨bb,oo,q,c,hba,h1,-,-⟩:=f_m (a_G (a_B HB5.out) HBR.out) hlt;subst hba;have HSS:=hid (show g_0 X.bs (k+1)=g_0 X.bs k++(((X.bs.getD k []).length:Nat):Int)::[] from m_B (by rw [HBL2.out];exact hlt));obtain ⟨m,hm⟩:=mn ((X.bs.getD k []).length);rw [hm] at h1 HSS;have i2:(0:Int)≤k:=by omega
    have i3:(k:Int) < bn:=by omega
    obtain ⟨rw0,hrw0⟩:=nm ((g_0 X.bs k).map (Value.int .i64));have HOR:=hid (show wr.ownsRow V.heap.size 3 1 (.slice va k vc) k rw0 by rw [hrw0];exact ho.out);have HRW:=hid hrw0;have HKN:=hid (show k+1≤1000 by have:=HBN.out;omega);clear hrw0 hb hm
    go_wp2_with (at_builtin;refine wpList_append_own _ rfl (.tmp 36) (.tmp 39) 23 rfl V.heap.size 3 j0 (.int .i64 0) 1 8 Tryz.underlying23 HJ.out.1 HJ.out.2.1 HJ.out.2.2.1 HJ.out.2.2.2 rfl (by decide) (.slice va k vc) k rw0 rfl (HOR.out.alloc _) ⟨wr.heap.size,0,none⟩ 1 1 [.int .i64 m] rfl rfl (u_s _ _ rfl _ _) (by simp [Value.oneCell']) (by have:=HKN.out;unfold maxLen;omega) (by have:=HKN.out;omega) (by simp;omega) ?_)
    intro v4 w4 hown hgrow _;obtain ⟨va4,vc4,rfl⟩:=p_x hown;have HB6:=hid (show Below V.heap.size V w4 from (HB5.out.alloc hsz _).grown hgrow (by simp;omega) (fun g hr=>(HOR.out.lt g hr).1));have HO4:=hid (show w4.ownsRow V.heap.size 3 1 (.slice va4 (k+1) vc4) (k+1) ((g_0 X.bs (k+1)).map (.int .i64)) by rw [HSS.out,List.map_append,←HRW.out];exact hown);clear hown hgrow;have hkn:=HKN.out;have hwk:=N174
    go_wp2_with fail
    go_roundw
    case rel=>exact ⟨k+1,va4,vc4,by omega,by go_num,rfl,HO4.out,HB6.out⟩
    case measure=>simp [intOf];omega
   ·obtain rfl:k=bn:=by omega
    obtain ⟨W3,hW3⟩:=nm (wr);subst hW3;obtain ⟨va9,vc9,hv9,h91,h92,h93,V9⟩:=e_E (r:=repInt) (Q:=Q1) ho.out (h_a (.int .i64) (g_0 X.bs k)) (fun b h _=>HQ2.out.2.2 b (by have:=HS2.out;omega))
    cases hv9
    have HL9:=hid (show Cap va k vc∧Vs repInt Q1 W3 va k (b_5 X) from ⟨⟨h91,h92,h93⟩,by rw [←n_Z,HBL2.out];exact V9⟩);have HWL:=hid (show (b_5 X).length=k from HL9.out.2.1);have HX3:=hid (a_h HB5.out HX2.out);have HZ3:=hid (a_h HB5.out HZ2.out);have HT5:=hid (a_h HB5.out HT2.out);have HB3:=hid (a_a HB2.out HB5.out);have HR5:=hid (b_H HB5.out HR3.out);have HT4:=hid (a_w (a_B HB5.out) HT3.out);have HS3:=hid (show w.heap.size+3≤W3.heap.size by have:=HS2.out;omega);clear h91 h92 h93 V9 hb hsz ho HX2 HZ2 HT2 HB2 HR3 HT3 HS2;obtain ⟨c12,g12⟩:=HT5.out 12 _ rfl;obtain ⟨V2,hV2⟩:=nm ((W3.setCell ⟨(w.heap.size+2),12,none⟩ (.slice va k vc)));have HX3s:=hid (show a_p V2 (w.heap.size) _ by rw [hV2];exact (a_m (g':=(w.heap.size+2)) (o:=12) HX3.out (by omega) (.slice va k vc)));have HZ3s:=hid (show a_p V2 (w.heap.size+1) _ by rw [hV2];exact (a_m (g':=(w.heap.size+2)) (o:=12) HZ3.out (by omega) (.slice va k vc)));have HT5s:=hid (show a_p V2 ((w.heap.size+2)) (thC (⟨t.pc,t.r,t.fs,t.st,t.ft,b_5 X⟩:Thr) ta tn tc va k vc) by have h:=(a_A HT5.out 12 (by simp) (.slice va k vc));rw [hV2];exact h);have hkV2:Kept Q1 W3 V2:=by rw [hV2];exact (a_V _ _ _ (fun b hb=>by show b≠(w.heap.size+2);have:=HQ2.out.2.1 b hb;omega))
    have HB3s:=hid (show Below w.heap.size w V2 by rw [hV2];exact (HB3.out.setCell (p:=⟨(w.heap.size+2),12,none⟩) (by show _≤(w.heap.size+2);omega) _));have HZV2:=hid (show V2.heap.size=W3.heap.size by rw [hV2];simp);have HV2:=hid hV2;clear hV2
    go_upto_region 13 with fail
    rw [←HV2.out];clear c12 g12
    have h0:Calls Tryz.prog 53 #[woV L D,.int .i64 j,thV ((⟨t.pc,t.r,t.fs,t.st,t.ft,b_5 X⟩:Thr)) ta tn tc va k vc] V2 (b_D Q1 Y V2):=by
     have h:=c_V Q1 L X j ((⟨t.pc,t.r,t.fs,t.st,t.ft,b_5 X⟩:Thr)) ta tc va vc V2 (a_C hkV2 HR5.out) (by rw [show ((⟨t.pc,t.r,t.fs,t.st,t.ft,b_5 X⟩:Thr)).fs.length=tn from HTN.out.1,show ((⟨t.pc,t.r,t.fs,t.st,t.ft,b_5 X⟩:Thr)).lf.length=k from HWL.out];exact ⟨(a_w hkV2 HT4.out).fcap,(a_w hkV2 HT4.out).fs,HL9.out.1,a_z hkV2 HL9.out.2⟩) (fun b hb=>HQ2.out.2.2 b (by have:=HZV2.out;have:=HS3.out;omega)) HN.out;rw [show ((⟨t.pc,t.r,t.fs,t.st,t.ft,b_5 X⟩:Thr)).fs.length=tn from HTN.out.1,show ((⟨t.pc,t.r,t.fs,t.st,t.ft,b_5 X⟩:Thr)).lf.length=k from HWL.out,HD.out,HYF.out] at h;exact h
    have HYD:=N93;have HC:=hid h0;clear h0
    go_wp2_with (first | (refine wpList_load_mid rfl 33 _ rfl (w.heap.size) 0 rfl (woC L D) _ (a_g HX3s.out) Tryz.underlying33 rfl (by kernel_rfl) ?_) | (refine wpList_load_mid rfl 46 _ rfl (w.heap.size+2) 0 rfl (thC ((⟨t.pc,t.r,t.fs,t.st,t.ft,b_5 X⟩:Thr)) ta tn tc va k vc) _ (a_g HT5s.out) Tryz.underlying46 rfl (by kernel_rfl) ?_))
    refine HC.out.mono ?_;rintro e9 w9 ⟨L9,rfl,R9,hb9⟩;have HZ9:=hid (a_h hb9 HZ3s.out);have HB9:=hid (a_a HB3s.out hb9);have HR9:=hid R9;clear hb9 R9 HC;rw [HYD.out]
    go_wp2_with (refine a_d rfl 33 _ _ rfl (w.heap.size+1) (woC L9 D).toArray rfl rfl _ HZ9.out rfl (by kernel_rfl) (b_u _ _) ?_;intro U HU)
    have HZ10:=N26;refine a_X ⟨w.heap.size+1,0,none⟩ rfl rfl rfl (a_E HZ10.out 33 Tryz.underlying33 rfl (by kernel_rfl)) ?_;have hkU:=N8;exact a_Z (L:=L9) (by rw [HYD.out]) (a_D HQ2.out.1 (a_C hkU HR9.out)) (by rw [HU.out];exact a_j (by omega) HB9.out)
def l_E (Q1:Nat→Prop) (h:Nat) (V:World) (L:WoL) (D:Int) (j ra rb:Nat) (kd va vb bz lv se sD:Int) (SW ST:List Int) (SB:List (List (Int×Int))):b_n:=[isV 0 (.pointer (some ⟨h,1,none⟩)),isV 1 (.agg #[.slice L.ws.a L.ws.n L.ws.c,.slice L.ts.a L.ts.n L.ts.c,.int .i64 D,.slice L.bs.a L.bs.n L.bs.c]),isV 2 (.int .i64 j),isV 3 (.int .i64 kd),isV 4 (.pointer (some ⟨h+1,2,none⟩)),isV 5 (.int .i64 rb),isV 6 (.pointer (some ⟨h+3,1,none⟩)),isV 7 (.pointer (some ⟨h+3,1+rb,none⟩)),isV 8 (.int .i64 vb),isV 9 (.pointer (some ⟨h+1,1,none⟩)),isV 10 (.int .i64 ra),isV 11 (.pointer (some ⟨h+3,1,none⟩)),isV 12 (.pointer (some ⟨h+3,1+ra,none⟩)),isV 13 (.int .i64 va),isV 14 (.int .i64 bz),([15],fun vz w=>∃ a n c a' n' c' q l d,vz=[.tuple #[.agg #[.slice a n c,.slice a' n' c',.int .i64 sD,.slice q l d],.int .i64 lv,.int .i64 se]]∧SlP Q1 w a n SW∧SlP Q1 w a' n' ST∧BlP Q1 w q l SB),([16,15],fun vz _=>∃ a n c a' n' c' q l d,vz=[.tuple #[.agg #[.slice a n c,.slice a' n' c',.int .i64 sD,.slice q l d],.int .i64 lv,.int .i64 se],.tuple #[.agg #[.slice a n c,.slice a' n' c',.int .i64 sD,.slice q l d],.int .i64 lv,.int .i64 se]]),([17,15],fun vz _=>∃ a n c a' n' c' q l d,vz=[.agg #[.slice a n c,.slice a' n' c',.int .i64 sD,.slice q l d],.tuple #[.agg #[.slice a n c,.slice a' n' c',.int .i64 sD,.slice q l d],.int .i64 lv,.int .i64 se]]),isV 18 (.int .i64 lv),isV 19 (.int .i64 se),([20],fun vz w=>∃ g,vz=[.pointer (some ⟨g,0,none⟩)]∧V.heap.size≤g∧∃ xs,a_p w g xs∧xs.length=4),([20,15],fun vz w=>∃ g a n c a' n' c' q l d,vz=[.pointer (some ⟨g,0,none⟩),.tuple #[.agg #[.slice a n c,.slice a' n' c',.int .i64 sD,.slice q l d],.int .i64 lv,.int .i64 se]]∧V.heap.size≤g∧a_p w g [.slice a n c,.slice a' n' c',.int .i64 sD,.slice q l d]∧SlP (fun b=>Q1 b∧b≠g) w a n SW∧SlP (fun b=>Q1 b∧b≠g) w a' n' ST∧BlP (fun b=>Q1 b∧b≠g) w q l SB),isV 22 (.int .i64 lv),isV 23 (.int .i64 se)]
theorem m_Q (Q1:Nat→Prop) (h:Nat) (V:World) (L:WoL) (D:Int) (j ra rb:Nat) (kd va vb bz lv se sD:Int) (SW ST:List Int) (SB:List (List (Int×Int))):c_g (l_E Q1  h  V  L  D  j ra rb  kd va vb bz lv se sD  SW ST  SB ):=a_c<|a_c<|a_c<|a_c<|a_c<|a_c<|a_c<|a_c<|a_c<|a_c<|a_c<|a_c<|a_c<|a_c<|a_c<|a_x (fun _ _ _ hb h=>by obtain ⟨a,n,c,a',n',c',q,l,d,h1,h0x,h1x,h2x⟩:=h;exact ⟨a,n,c,a',n',c',q,l,d,h1,a_r (fun _ _ _ _ h=>a_t hb h) h0x,a_r (fun _ _ _ _ h=>a_t hb h) h1x,a_G (fun _ _ _ _ h=>a_t hb h) h2x⟩)<|a_x (fun _ _ _ _ h=>h)<|a_x (fun _ _ _ _ h=>h)<|a_c<|a_c<|a_x (fun _ _ _ hb h=>by obtain ⟨g,h1,h2,xs,h3,h4⟩:=h;exact ⟨g,h1,h2,xs,a_h hb h3,h4⟩)<|a_x (fun _ _ _ hb h=>by obtain ⟨g,a,n,c,a',n',c',q,l,d,h1,h2,h3,h0x,h1x,h2x⟩:=h;exact ⟨g,a,n,c,a',n',c',q,l,d,h1,h2,a_h hb h3,a_r (fun _ _ _ _ h=>a_t hb h) h0x,a_r (fun _ _ _ _ h=>a_t hb h) h1x,a_G (fun _ _ _ _ h=>a_t hb h) h2x⟩)<|a_c<|a_c<|b_m
theorem o_h (Q1:Nat→Prop) (h:Nat) (V:World) (L:WoL) (D:Int) (j ra rb:Nat) (kd va vb bz lv se sD:Int) (SW ST:List Int) (SB:List (List (Int×Int))):∀ jz args wz wz',jz≠15→jz≠20→jz≠21→b_E (l_E Q1  h  V  L  D  j ra rb  kd va vb bz lv se sD  SW ST  SB ) jz args wz→b_E (l_E Q1  h  V  L  D  j ra rb  kd va vb bz lv se sD  SW ST  SB ) jz args wz':=by
 intro jz args wz wz' n0 n1 n2 h
 match jz with
 | 0=>exact h
 | 1=>exact h
 | 2=>exact h
 | 3=>exact h
 | 4=>exact h
 | 5=>exact h
 | 6=>exact h
 | 7=>exact h
 | 8=>exact h
 | 9=>exact h
 | 10=>exact h
 | 11=>exact h
 | 12=>exact h
 | 13=>exact h
 | 14=>exact h
 | 15=>exact absurd rfl n0
 | 16=>exact h
 | 17=>exact h
 | 18=>exact h
 | 19=>exact h
 | 20=>exact absurd rfl n1
 | 21=>exact absurd rfl n2
 | 22=>exact h
 | 23=>exact h
 | _+24=>exact trivial
theorem k_2 (Q:Nat→Prop) (L:WoL) (X:Wo) (j:Nat) (i:Ins) (w:World) (R:RWo Q w L X) (hj:j < L.th.n) (hQ:∀ b,w.heap.size≤b→Q b) (hn:L.th.n≤1000) (hh:j_A X.ws X.ts X.D X.bs j=true) (ha:0≤i.2.1∧i.2.1≤7) (hb:0≤i.2.2.1∧i.2.2.1≤7) (hc:0≤i.2.2.2∧i.2.2.2≤7) (ho:19≤i.1∧i.1≤21) (hpc:0≤(thW X j).pc∧(thW X j).pc≤1000) :
  Calls Tryz.prog 57 #[woV L X.D,.int .i64 j,inV i] w (b_D Q (k_0 X j (thW X j) i) w):=by
 obtain ⟨Y,hY⟩:=mn (k_0 X j (thW X j) i);rw [hY];obtain ⟨D,hD⟩:=mn (X.D);rw [hD];obtain ⟨tb,tq,t,ta,tc,qa,qc,htl,htt,-,T,hr⟩:=d_d R.th hj;have htw:=N53;rw [htw] at hY;have HTW:=hid htw;rw [htw] at hpc;obtain ⟨op,A,B,cc⟩:=i;unfold k_0 at hY;simp only at hY ha hb hc ho;obtain ⟨ra,hra,hra8⟩:=a_6 ha;obtain ⟨rb,hrb,hrb8⟩:=a_6 hb;obtain ⟨rc,hrc,hrc8⟩:=a_6 hc;subst hra hrb hrc;have ⟨HP,HH⟩:=hh2 hpc hh;obtain ⟨va,hva⟩:=mn (t.r ra);obtain ⟨vb,hvb⟩:=mn (t.r rb);obtain ⟨vc,hvc⟩:=mn (t.r rc);have HVC:=hid hvc;obtain ⟨kd,hkd⟩:=mn (op - 19);have hkw:wrap64 (op - 19)=kd:=by rw [←hkd];exact IntWalk.wrap64_in _ (by omega)
 have HKW:=hid hkw;have HKD:=hid (show 0≤kd∧kd≤2 by omega);have HKO:=hid hkd;have HVA:=hid (And.intro hva hvb);have HA8:=hid (show (0:Int)≤ra∧(ra:Int)≤7 by omega);have i3:(0:Int)≤ra:=by omega
 have i4:(ra:Int) < 8:=by omega
 have i5:(0:Int)≤rb:=by omega
 have i6:(rb:Int) < 8:=by omega
 have i7:(0:Int)≤rc:=by omega
 have i8:(rc:Int) < 8:=by omega
 clear hh hpc ha hb hc ho hva hvb hvc hkd hkw;obtain ⟨tn,htn⟩:=mn (t.fs.length);obtain ⟨tm,htm⟩:=mn (t.lf.length);have HTN:=hid (And.intro htn htm);obtain ⟨Q1,hQ1⟩:∃ Q1:Nat→Prop,Q1=fun b=>Q b∧(b < w.heap.size∨w.heap.size+4≤b):=⟨_,rfl⟩
 have HQ1:=hid hQ1;have HQ2:=N56;have HR1:=N42;have HT1:=N36;obtain ⟨W,hW⟩:=nm (((w.alloc (Obj.cells (woC L D).toArray 33)).alloc (Obj.cells (inL op ra rb rc).toArray 66)).alloc (Obj.cells woZ.toArray 33));have HX:=N71;have HI:=hid (show a_p W (w.heap.size+1) (inL op ra rb rc) by rw [hW];exact a_s _ (a_e _ _ (by simp)));have HZ:=N83;have HB:=N3;have HSZ:=N124;have HRA:=N28;have ⟨HW,HY,HTL,HD,HN⟩:=hh5 hW hY htl hD hn;rw [htn,htm] at HT1;have i1:(0:Int)≤j:=by omega
 have i2:(j:Int) < L.th.n:=by omega
 clear htl hY hD htt T hr htn htm hQ1 R hW htw hQ hn;unfold woV
 go_enter Tryz.func57,Tryz.ntmps57
 go_upto_region 1 with fail
 rw [←HW.out];obtain ⟨k5,-⟩:=HX.out 5 _ rfl;rw [HTL.out] at k5
 go_upto_region 2 with (first | (refine wpList_load_mid rfl 46 _ rfl tb (tq+j*13) rfl (thC t ta tn tc qa tm qc) _ HRA.out Tryz.underlying46 rfl (by kernel_rfl) ?_) | (refine a_d rfl 46 _ _ rfl W.heap.size (thC t ta tn tc qa tm qc).toArray rfl rfl _ (a_e thN W.heap.size rfl) rfl (by kernel_rfl) (a_M _ _ _ _ _ _ _) ?_;intro V HV))
 rw [HSZ.out];simp only [Act.put];have HX2:=N31;have HI2:=hid (show a_p V (w.heap.size+1) (inL op ra rb rc) by rw [HV.out];exact a_k (by have:=HSZ.out;omega) (a_s _ HI.out));have HZ2:=N115;have HT2:=N91;have HB2:=N27;have HS2:=N158;clear HV HX HZ HB HSZ HRA HW k5 i1 i2 HI;obtain ⟨x1,-⟩:=HX2.out 1 _ rfl;obtain ⟨x2,-⟩:=HX2.out 2 _ rfl;obtain ⟨x3,-⟩:=HX2.out 3 _ rfl;obtain ⟨x4,-⟩:=HX2.out 4 _ rfl;obtain ⟨y0,-⟩:=HI2.out 0 _ rfl;obtain ⟨y1,-⟩:=HI2.out 1 _ rfl;obtain ⟨y2,-⟩:=HI2.out 2 _ rfl;obtain ⟨y3,-⟩:=HI2.out 3 _ rfl;obtain ⟨za,-⟩:=HT2.out (1+ra) _ (c_M t.r ra hra8 _ _);obtain ⟨zb,-⟩:=HT2.out (1+rb) _ (c_M t.r rb hrb8 _ _);rw [HVA.out.1] at za;rw [HVA.out.2] at zb;have HRV:=N109;have HT3:=N65;obtain ⟨zc,-⟩:=HT2.out (1+rc) _ (c_M t.r rc hrc8 _ _);rw [HVC.out] at zc;obtain ⟨bz,hbz⟩:=mn ((if kd=0 then vc else 0));have HBZ:=hid hbz;clear hbz;have hkw:=HKW.out
 go_upto_if 22 with fail
 clear hkw
 go_cut [9,8] (fun s9 s8 wx=>s9=.int .i64 bz∧s8=.int .i64 kd∧wx=V)
 case first =>
  by_cases hk0:kd=0
  ·have hk1:(kd==0)=true:=by simpa using hk0
   have hb1:vc=bz:=by rw [←HBZ.out,if_pos hk0]
   subst hb1;clear hk0
   go_wp2_with fail
   go_meet
   exact ⟨rfl,by first | rfl | rw [HKW.out],rfl⟩
  ·have hk1:(kd==0)=false:=by simpa using hk0
   have hb1:0=bz:=by rw [←HBZ.out,if_neg hk0]
   subst hb1;clear hk0
   go_wp2_with fail
   go_meet
   exact ⟨rfl,by first | rfl | rw [HKW.out],rfl⟩
 case rest =>
  obtain ⟨rfl,rfl,rfl⟩:=hcut;obtain ⟨V,hV⟩:=nm (wc);subst hV
  have HYL:=hid (show (if b_y X.ws X.ts D X.bs j kd vb=0 then { b_k X j (c_4 t ra (b_M X.ws X.ts vb)) with ws:=b_z X.ws X.ts kd vb va bz } else b_k X j (b_w t (b_y X.ws X.ts D X.bs j kd vb)))=Y by
   have hbz:b_z X.ws X.ts kd vb va bz=b_z X.ws X.ts kd vb va vc:=by
    rw [←HBZ.out]
    by_cases hk0:kd=0
    ·rw [if_pos hk0]
    ·rw [if_neg hk0,b_z,b_z,d_D,d_D,if_neg hk0,if_neg hk0]
   rw [hbz,←HY.out,←HVA.out.2,←HVA.out.1,←HVC.out,←HD.out,←HKO.out];rfl)
  obtain ⟨se,hse⟩:=mn (b_y X.ws X.ts D X.bs j kd vb);rw [hse] at HYL;obtain ⟨sD,hsD⟩:=mn (okZ se D);obtain ⟨lv,hlv⟩:=mn (okZ se (b_M X.ws X.ts vb));obtain ⟨SW,hSW⟩:=mn (okL se (b_z X.ws X.ts kd vb va bz));obtain ⟨ST,hST⟩:=mn (okL se X.ts);obtain ⟨SB,hSB⟩:=mn (okL se X.bs);have HLV:=hid (show se=0→b_M X.ws X.ts vb=lv from fun h=>by subst h;exact hlv);have HOK:=hid (show se=0→D=sD∧b_z X.ws X.ts kd vb va bz=SW∧X.ts=ST∧X.bs=SB from fun h=>by subst h;exact ⟨hsD,hSW,hST,hSB⟩)
  have HMK:=hid (show ∀ u,Below V.heap.size V u→Calls Tryz.prog 103 #[.agg #[.slice L.ws.a L.ws.n L.ws.c,.slice L.ts.a L.ts.n L.ts.c,.int .i64 D,.slice L.bs.a L.bs.n L.bs.c],.int .i64 j,.int .i64 kd,.int .i64 vb,.int .i64 va,.int .i64 bz] u (fun e w'=>∃ a n c a' n' c' q l d,e=.returned (.tuple #[.agg #[.slice a n c,.slice a' n' c',.int .i64 sD,.slice q l d],.int .i64 lv,.int .i64 se])∧SlP (fun b=>Q1 b∧(b < V.heap.size∨u.heap.size≤b)) w' a n SW∧SlP (fun b=>Q1 b∧(b < V.heap.size∨u.heap.size≤b)) w' a' n' ST∧BlP (fun b=>Q1 b∧(b < V.heap.size∨u.heap.size≤b)) w' q l SB∧Below u.heap.size u w') from fun u hu=>by
   have h:=h_n (fun b=>Q1 b∧(b < V.heap.size∨u.heap.size≤b)) L.ws.a L.ts.a L.bs.a L.ws.n L.ws.c L.ts.n L.ts.c L.bs.n L.bs.c X.ws X.ts D X.bs j kd vb va bz u (a_r (fun _ _ _ _ h=>a_t hu h) (a_n (fun b h=>⟨h.1,.inl h.2⟩) (c_k HRV.out.ws))) (a_r (fun _ _ _ _ h=>a_t hu h) (a_n (fun b h=>⟨h.1,.inl h.2⟩) (c_k HRV.out.ts))) (a_G (fun _ _ _ _ h=>a_t hu h) (a_H (fun b h=>⟨h.1,.inl h.2⟩) (f_t HRV.out.bs))) (fun b hb=>⟨HQ2.out.2.2 b (by have:=hu.size;have:=HS2.out;omega),.inr hb⟩) (by rw [←HD.out];exact HH.out) (decide_eq_true HKD.out);rw [hse,hsD,hSW,hST,hSB,hlv] at h;exact h)
  clear hse hsD hSW hST hSB hlv;have hG:=m_Q Q1 w.heap.size V L D j ra rb kd va vb bz lv se sD SW ST SB
  go_upto_region 6 with fail
  refine d_f [some 29,some 30,some 31,some 32,some 33,some 34,some 35,some 36,some 37,some 38,some 39,some 40,some 41,some 42,some 43,some 44,some 28,some 45,some 46,some 47,some 10,none,some 11,some 12] (fun w'=>Below V.heap.size V w') (l_E Q1 w.heap.size V L D j ra rb kd va vb bz lv se sD SW ST SB) 15 20 (fun x y w=>∃ a n c a' n' c' q l d g,x=.tuple #[.agg #[.slice a n c,.slice a' n' c',.int .i64 sD,.slice q l d],.int .i64 lv,.int .i64 se]∧y=.pointer (some ⟨g,0,none⟩)∧SlP (fun b=>Q1 b∧b≠g) w a n SW∧SlP (fun b=>Q1 b∧b≠g) w a' n' ST∧BlP (fun b=>Q1 b∧b≠g) w q l SB) (by kernel_rfl) (by kernel_rfl) (by decide) rfl ((Below.refl _ _).drew) ?_ ?_
  ·show StepsL _ _ _ _ _ _ _
   refine InvD.c (fun _ _ w1 C _ hK=>oR C hK (h:=by simp [execOp,go_sem,C.o 3 (.pointer (some ⟨w.heap.size,0,none⟩))])) ?_;refine InvD.c (fun a1 vals w1 C K hK=>?_) ?_
   ·have e0:=C.i 0;exact a_f rfl (wp_load_mid 30 _ rfl (w.heap.size) (1) ((a_K a1 _).symm.trans e0) [.slice L.ws.a L.ws.n L.ws.c,.slice L.ts.a L.ts.n L.ts.c,.int .i64 D,.slice L.bs.a L.bs.n L.bs.c] _ (f_3 (a_h C.base HX2.out)) Tryz.underlying30 rfl (by kernel_rfl) (b_P hK C rfl rfl))
   refine InvD.c (fun _ _ w1 C _ hK=>oR C hK (h:=by simp [execOp,go_sem,C.o 1 (.int .i64 j)])) ?_;refine InvD.c (fun _ _ w1 C _ hK=>oR C hK (h:=by simp [execOp,go_sem,C.o 8 (.int .i64 kd)])) ?_;refine InvD.c (fun _ _ w1 C _ hK=>oR C hK (h:=by simp [execOp,go_sem,C.o 5 (.pointer (some ⟨w.heap.size+1,0,none⟩))])) ?_;refine InvD.c (fun _ _ w1 C _ hK=>oR C hK (h:=by simp [execOp,go_sem,C.i 4,a_t C.base y2])) ?_;refine InvD.c (fun _ _ w1 C _ hK=>oR C hK (h:=by simp [execOp,go_sem,C.o 7 (.pointer (some ⟨w.heap.size+3,0,none⟩))])) ?_;refine InvD.c (fun _ _ w1 C _ hK=>oR C hK (h:=by simp [execOp,go_sem,C.i 5,C.i 6,i5,i6])) ?_;refine InvD.c (fun _ _ w1 C _ hK=>oR C hK (h:=by simp [execOp,go_sem,C.i 7,a_t C.base zb])) ?_;refine InvD.c (fun _ _ w1 C _ hK=>oR C hK (h:=by simp [execOp,go_sem,C.o 5 (.pointer (some ⟨w.heap.size+1,0,none⟩))])) ?_;refine InvD.c (fun _ _ w1 C _ hK=>oR C hK (h:=by simp [execOp,go_sem,C.i 9,a_t C.base y1])) ?_;refine InvD.c (fun _ _ w1 C _ hK=>oR C hK (h:=by simp [execOp,go_sem,C.o 7 (.pointer (some ⟨w.heap.size+3,0,none⟩))])) ?_;refine InvD.c (fun _ _ w1 C _ hK=>oR C hK (h:=by simp [execOp,go_sem,C.i 10,C.i 11,i3,i4])) ?_;refine InvD.c (fun _ _ w1 C _ hK=>oR C hK (h:=by simp [execOp,go_sem,C.i 12,a_t C.base za])) ?_;refine InvD.c (fun _ _ w1 C _ hK=>oR C hK (h:=by simp [execOp,go_sem,C.o 9 (.int .i64 bz)])) ?_;refine InvD.c (fun a1 vals w1 C K hK=>?_) ?_
   ·have e0:=C.i 1;have e1:=C.i 2;have e2:=C.i 3;have e3:=C.i 8;have e4:=C.i 13;have e5:=C.i 14;rw [a_K] at e0 e1 e2 e3 e4 e5;refine a_f rfl (a_N _ _ _ rfl 103 rfl [.agg #[.slice L.ws.a L.ws.n L.ws.c,.slice L.ts.a L.ts.n L.ts.c,.int .i64 D,.slice L.bs.a L.bs.n L.bs.c],.int .i64 j,.int .i64 kd,.int .i64 vb,.int .i64 va,.int .i64 bz] (by simp only [List.map_cons,List.map_nil,e0,e1,e2,e3,e4,e5]) (by kernel_rfl) ((HMK.out w1 C.base).mono ?_));exact J25
   refine InvD.c (fun a1 vals w1 C K hK=>?_) ?_
   ·have e0:=C.t 15 44 rfl rfl;obtain ⟨a,n,c,a',n',c',q,l,d,h1,-⟩:=C.says 15 rfl;refine a_f rfl (a_v (v:=vals 15) ?_ (b_P hK C rfl ⟨a,n,c,a',n',c',q,l,d,by show [vals 15,vals 15]=_;rw [List.head_eq_of_cons_eq h1]⟩));simp [execOp,go_sem,e0]
   refine InvD.c (fun a1 vals w1 C K hK=>?_) ?_
   ·have e0:=C.t 16 28 rfl rfl;obtain ⟨a,n,c,a',n',c',q,l,d,h1⟩:=C.says 16 rfl;have h2:=N68;have h3:=N39;rw [h2] at e0;refine a_f rfl (a_v (v:=.agg #[.slice a n c,.slice a' n' c',.int .i64 sD,.slice q l d]) ?_ (b_P hK C rfl (⟨a,n,c,a',n',c',q,l,d,by show [.agg #[.slice a n c,.slice a' n' c',.int .i64 sD,.slice q l d],vals 15]=_;rw [h3]⟩)));simp [execOp,go_sem,e0]
   refine InvD.c (fun a1 vals w1 C K hK=>?_) ?_
   ·have e0:=C.t 16 28 rfl rfl;obtain ⟨a,n,c,a',n',c',q,l,d,h1⟩:=C.says 16 rfl;have h2:=N68;have h3:=N39;rw [h2] at e0;refine a_f rfl (a_v (v:=.int .i64 lv) ?_ (b_P hK C rfl (rfl)));simp [execOp,go_sem,e0]
   refine InvD.c (fun a1 vals w1 C K hK=>?_) ?_
   ·have e0:=C.t 16 28 rfl rfl;obtain ⟨a,n,c,a',n',c',q,l,d,h1⟩:=C.says 16 rfl;have h2:=N68;have h3:=N39;exact J89
   refine InvD.c (fun a1 vals w1 C K hK=>?_) ?_
   ·exact J14
   refine InvD.c (fun a1 vals w1 C K hK=>?_) ?_
   ·have e0:=C.v 20 10 rfl rfl;have e1:=C.v 17 45 rfl rfl;obtain ⟨g,g1,g2,xs,hx,hx2⟩:=C.says 20 rfl;obtain ⟨a,n,c,a',n',c',q,l,d,h1⟩:=C.says 17 rfl;have y0:=N244;have y1:vals 17=.agg #[.slice a n c,.slice a' n' c',.int .i64 sD,.slice q l d]:=List.head_eq_of_cons_eq h1;have y2:=N39;obtain ⟨a2,n2,c2,a'2,n'2,c'2,q2,l2,d2,gg,z1,z2,p0x,p1x,p2x⟩:=C.two rfl rfl rfl rfl;rw [y2] at z1;rw [y0] at z2
    cases z1
    cases z2
    rw [y0] at e0;rw [y1] at e1;refine a_f rfl (a_7 30 _ _ rfl g #[.slice a n c,.slice a' n' c',.int .i64 sD,.slice q l d] e0 e1 xs hx (by rw [hx2];rfl) (by kernel_rfl) (by simp [Value.oneCell']) ?_);intro U HU;have hUx:=N97;have hk:=N113;have q0x:=a_r (w':=U) hk p0x;have q1x:=a_r (w':=U) hk p1x;have q2x:=a_G (w':=U) hk p2x;refine hK _ U ⟨g,a,n,c,a',n',c',q,l,d,by show [vals 20,vals 15]=_;rw [y0,y2],g2,hUx,q0x,q1x,q2x⟩ (by rw [HU.out];exact a_j g2 C.base) (fun jz hj h=>?_) (fun _ _ _=>⟨a,n,c,a',n',c',q,l,d,g,y2,y0,q0x,q1x,q2x⟩) (fun e=>absurd e (by decide)) (fun e=>absurd e (by decide)) (fun e=>absurd e (by decide))
    by_cases j16:jz=15
    ·subst j16;exact ⟨a,n,c,a',n',c',q,l,d,by show [vals 15]=_;rw [y2],a_n (fun _ h=>h.1) q0x,a_n (fun _ h=>h.1) q1x,a_H (fun _ h=>h.1) q2x⟩
    ·by_cases j20:jz=20
     ·subst j20;exact ⟨g,by show [vals 20]=_;rw [y0],g2,_,hUx,rfl⟩
     ·exact o_h _ _ _ _ _ _ _ _ _ _ _ _ _ _ _ _ _ _ _ _ _ _ j16 j20 hj h
   refine InvD.c (fun _ _ w1 C _ hK=>oR C hK (h:=by simp [execOp,go_sem,C.i 18])) ?_;refine InvD.c (fun _ _ w1 C _ hK=>oR C hK (h:=by simp [execOp,go_sem,C.i 19])) ?_;exact StepsL.nil
  ·intro vals w1 hb hv hbo;obtain ⟨g,a,n,c,a',n',c',q,l,d,e1,g2,hm,q5,q6,q7⟩:=hv 21 (by decide);have y20:=N245;have y22:vals 22=.int .i64 lv:=List.head_eq_of_cons_eq (hv 22 (by decide));have y23:vals 23=.int .i64 se:=List.head_eq_of_cons_eq (hv 23 (by decide));simp only [c_L,Act.put,sA,sB,sC,y20,y22,y23];have HXE:=hid (a_h hb HX2.out);have HIE:=hid (a_h hb HI2.out);have HZE:=hid (a_h hb HZ2.out);have HTE:=hid (a_h hb HT2.out);have HBE:=hid (a_a HB2.out hb);have HRE:=hid (show RWo Q1 w1 L X from b_H hb HRV.out);have HHE:=hid (a_w (a_B hb) HT3.out);have HSE:=N230;have HMV:=hid hm;have HQM:=hid (And.intro q5 (And.intro q6 q7));clear hb hbo hv e1 y20 y22 y23 hm q5 q6 q7 g2 HX2 HZ2 HT2 HB2 HRV HT3 HMK x1 x2 x3 x4 y0 y1 y2 y3 za zb zc hG i5 i6 i7 i8
   by_cases se0:se=0
   ·subst se0;obtain ⟨hD2,hW2,hT2,hB2⟩:=HOK.out rfl;subst hD2 hW2 hT2 hB2;have HYF:=hid (show b_k { X with ws:=b_z X.ws X.ts kd vb va bz } j (c_4 t ra lv)=Y by rw [←HYL.out,if_pos rfl,HLV.out rfl];rfl);obtain ⟨X2,hX2⟩:∃ X2:Wo,X2={ X with ws:=b_z X.ws X.ts kd vb va bz }:=⟨_,rfl⟩;rw [←hX2] at HYF;have HX2:=N254;have hp1:0≤t.pc:=HP.out.1;have hp2:t.pc≤1000:=HP.out.2
    go_upto_region 10 with (first | (refine wpList_load_mid rfl 30 _ rfl g 0 rfl [.slice a n c,.slice a' n' c',.int .i64 D,.slice q l d] _ (a_g HMV.out) Tryz.underlying30 rfl (by kernel_rfl) ?_) | (refine a_L rfl 30 _ _ rfl w.heap.size 1 #[.slice a n c,.slice a' n' c',.int .i64 D,.slice q l d] rfl rfl _ HXE.out (by simp) (by kernel_rfl) (by simp [Value.oneCell']) ?_;intro U9 HU9))
    simp only [Act.put];have HX9:=N94;have HT9:=N167;have HZ9:=N213;have HI9:=hid (show a_p U9 (w.heap.size+1) (inL op ra rb rc) by rw [HU9.out];exact a_k (by omega) HIE.out);have HB9:=N210;have hk9:=N194;have HS9:=N249;clear HU9 HMV;obtain ⟨z0,f0⟩:=HT9.out 0 _ rfl;obtain ⟨V2,hV2⟩:=nm ((U9.setCell ⟨(w.heap.size+3),0,none⟩ (.int .i64 (t.pc+1))));have HX9s:=N136;have HZ9s:=N134;have HI9s:=hid (show a_p V2 (w.heap.size+1) _ by rw [hV2];exact (a_m (g':=(w.heap.size+3)) (o:=0) HI9.out (by omega) (.int .i64 (t.pc+1))));have HT9s:=N125;have hkV2:=N146;have HB9s:=N129;have HZV2:=hid (show V2.heap.size=U9.heap.size by rw [hV2];simp);have HV2:=hid hV2;clear hV2
    go_upto_region 11 with fail
    rw [←HV2.out];clear z0 f0 hp1 hp2;have hkW:Kept Q1 w1 V2:=a_4 hk9 hkV2
    have HR9s:=hid (show RWo Q1 V2 (L.setTso ⟨a,n,c⟩ ⟨a',n',c'⟩ ⟨q,l,d⟩) X2 by
     rw [hX2];exact i_l (a_C hkW HRE.out) (a_r hkW (a_n (fun _ h=>h.1) HQM.out.1)) (a_r hkW (a_n (fun _ h=>h.1) HQM.out.2.1)) (a_G hkW (a_H (fun _ h=>h.1) HQM.out.2.2)))
    have HH9s:=hid (a_w hkW HHE.out);have HS9s:=hid (show w.heap.size+4≤V2.heap.size by have:=HZV2.out;have:=HS9.out;omega);clear hX2 hkW HRE HHE HZE HXE HTE HBE HIE HQM HV2 HS9 HX9 HZ9 HT9 HB9 HI9 hk9 hkV2 HZV2;obtain ⟨x1,-⟩:=HI9s.out 1 _ rfl;have h0:=b_T t.r ra lv V2 HA8.out;have HC:=hid h0;clear h0
    go_wp2_with (refine wpList_load_mid rfl 43 _ rfl (w.heap.size+3) 1 rfl (rgC t.r) _ (c_l (t:=b_j t) HT9s.out) Tryz.underlying43 rfl (by kernel_rfl) ?_)
    refine HC.out.mono ?_;clear HC;rintro e7 w7 ⟨rfl,hb7⟩;obtain ⟨s,hs⟩:=mn (b_Y t.r ra lv);rw [hs];have HSS:=hid hs;clear hs;have HX7:=hid (a_h hb7 HX9s.out);have HI7:=hid (a_h hb7 HI9s.out);have HZ7:=hid (a_h hb7 HZ9s.out);have HT7:=hid (a_h hb7 HT9s.out);have HB7:=hid (a_a HB9s.out hb7);have HR7:=hid (show RWo Q1 w7 (L.setTso ⟨a,n,c⟩ ⟨a',n',c'⟩ ⟨q,l,d⟩) X2 from b_H hb7 HR9s.out);have HH7:=hid (a_w (a_B hb7) HH9s.out);have HS7:=hid (show w.heap.size+4≤w7.heap.size by have:=(hb7).size;have:=HS9s.out;omega);clear hb7 HX9s HI9s HZ9s HT9s
    go_upto_region 12 with (refine a_L rfl 43 _ _ rfl (w.heap.size+3) 1 (rgC s).toArray rfl rfl _ HT7.out (by simp) (by kernel_rfl) (b_J _ _ _ _ _ _ _ _) ?_;intro U8 HU8)
    simp only [Act.put];have HT8:=hid (show a_p U8 (w.heap.size+3) (thC (c_4 t ra lv) ta tn tc qa tm qc) by rw [HU8.out,c_4,HSS.out];exact b_c (xs:=(rgC s)) 1 HT7.out (by simp));have HX8:=hid (show a_p U8 w.heap.size _ by rw [HU8.out];exact a_k (by omega) HX7.out);have HZ8:=N212;have HB8:=N225;have hk8:=N193;have HR8:=hid (a_C hk8 HR7.out);have HH8:=hid (a_w hk8 HH7.out);have HS8:=N248;clear hk8 HU8 HX7 HZ7 HT7 HB7 HR7 HH7
    have h0:Calls Tryz.prog 53 #[woV (L.setTso ⟨a,n,c⟩ ⟨a',n',c'⟩ ⟨q,l,d⟩) D,.int .i64 j,thV (c_4 t ra lv) ta tn tc qa tm qc] U8 (b_D Q1 Y U8):=by
     have h:=c_V Q1 (L.setTso ⟨a,n,c⟩ ⟨a',n',c'⟩ ⟨q,l,d⟩) X2 j (c_4 t ra lv) ta tc qa qc U8 HR8.out (by rw [show (c_4 t ra lv).fs.length=tn from HTN.out.1,show (c_4 t ra lv).lf.length=tm from HTN.out.2];exact d_c HH8.out) (fun b hb=>HQ2.out.2.2 b (by have:=HS8.out;omega)) HN.out;rw [show (c_4 t ra lv).fs.length=tn from HTN.out.1,show (c_4 t ra lv).lf.length=tm from HTN.out.2,show (X2).D=D from HX2.out,HYF.out] at h;exact h
    have HYD:=hid (show Y.D=D by rw [←HYF.out];exact HX2.out);have HC:=hid h0;clear h0
    go_wp2_with (first | (refine wpList_load_mid rfl 33 _ rfl (w.heap.size) 0 rfl (woC (L.setTso ⟨a,n,c⟩ ⟨a',n',c'⟩ ⟨q,l,d⟩) D) _ (a_g HX8.out) Tryz.underlying33 rfl (by kernel_rfl) ?_) | (refine wpList_load_mid rfl 46 _ rfl (w.heap.size+3) 0 rfl (thC (c_4 t ra lv) ta tn tc qa tm qc) _ (a_g HT8.out) Tryz.underlying46 rfl (by kernel_rfl) ?_))
    refine HC.out.mono ?_;rintro e9 w9 ⟨L9,rfl,R9,hb9⟩;have HZ9:=hid (a_h hb9 HZ8.out);have HB9:=hid (a_a HB8.out hb9);have HR9:=hid R9;clear hb9 R9 HC;rw [HYD.out]
    go_wp2_with (refine a_d rfl 33 _ _ rfl (w.heap.size+2) (woC L9 D).toArray rfl rfl _ HZ9.out rfl (by kernel_rfl) (b_u _ _) ?_;intro U HU)
    have HZ10:=N102;refine a_X ⟨w.heap.size+2,0,none⟩ rfl rfl rfl (a_E HZ10.out 33 Tryz.underlying33 rfl (by kernel_rfl)) ?_;have hkU:=N8;exact a_Z (L:=L9) (by rw [HYD.out]) (a_D HQ2.out.1 (a_C hkU HR9.out)) (by rw [HU.out];exact a_j (by omega) HB9.out)
   ·have hse:(se != 0)=true:=by simpa using se0
    have HYF:=hid (show b_k X j (b_w t se)=Y by rw [←HYL.out,if_neg se0])
    have h0:Calls Tryz.prog 52 #[woV L D,.int .i64 j,.int .i64 se] w1 (b_D Q1 Y w1):=by
     exact J104
    have HYD:=N135;have HC:=hid h0;clear h0
    go_wp2_with (first | (refine wpList_load_mid rfl 33 _ rfl (w.heap.size) 0 rfl (woC L D) _ (a_g HXE.out) Tryz.underlying33 rfl (by kernel_rfl) ?_))
    refine HC.out.mono ?_;rintro e9 w9 ⟨L9,rfl,R9,hb9⟩;have HZ9:=hid (a_h hb9 HZE.out);have HB9:=hid (a_a HBE.out hb9);exact J16
end Go.Proofs.YtolabfafgbmdbaaGreatDoor
