import Derived.Test.YtogdpojnbgeknaaGreatDoorB11
import Derived.Deep.CutBlock
import Derived.Test.YtogdpojnbgeknaaGreatDoorB0
import Derived.Test.YtogdpojnbgeknaaGreatDoorB8
import Derived.Test.YtogdpojnbgeknaaGreatDoorB13
import Derived.Test.YtogdpojnbgeknaaGreatDoorB6
import Derived.Test.YtogdpojnbgeknaaGreatDoorB9
import Derived.Test.YtogdpojnbgeknaaGreatDoorB10
set_option maxRecDepth 100000
set_option maxHeartbeats 16000000
namespace Go.Proofs.YtogdpojnbgeknaaGreatDoor
open Go.ChangeShapes Go.WideShapes Go.ChangeAt Go.RowKit
open Gen
open Lib (hid)
theorem d_c {Q:Nat→Prop} {w:World} {fa:Option Addr} {fn fc:Nat} {la:Option Addr} {ln lc:Nat} {t u:Thr} (h:ThQ Q w fa fn fc la ln lc t) (h1:u.fs=t.fs:=by rfl) (h2:u.lf=t.lf:=by rfl):ThQ Q w fa fn fc la ln lc u:=⟨h.fcap,by rw [h1];exact h.fs,h.lcap,by rw [h2];exact h.lf⟩
theorem c_Z (Q:Nat→Prop) (L:WoL) (X:Wo) (j:Nat) (e:Int) (w:World) (R:RWo Q w L X) (hj:j < L.th.n) (hQ:∀ b,w.heap.size≤b→Q b) (hn:L.th.n≤1000) :
  Calls Tryz.prog 52 #[woV L X.D,.int .i64 j,.int .i64 e] w (b_D Q (b_k X j (b_w (thW X j) e)) w):=by
 obtain ⟨Y,hY⟩:=mn (b_k X j (b_w (thW X j) e));rw [hY];obtain ⟨D,hD⟩:=mn (X.D);rw [hD];obtain ⟨tb,tq,t,ta,tc,qa,qc,htl,htt,-,T,hr⟩:=c_3 R.th hj;have htw:=N54;rw [htw] at hY;have HTW:=hid htw;obtain ⟨tn,htn⟩:=mn (t.fs.length);obtain ⟨tm,htm⟩:=mn (t.lf.length);have HTN:=hid (And.intro htn htm);obtain ⟨Q1,hQ1⟩:∃ Q1:Nat→Prop,Q1=fun b=>Q b∧(b < w.heap.size∨w.heap.size+3≤b):=⟨_,rfl⟩
 have HQ1:=hid hQ1;have HQ2:=N30;have HR1:=N41;have HT1:=N36;obtain ⟨W,hW⟩:=nm ((w.alloc (Obj.cells (woC L D).toArray 33)).alloc (Obj.cells woZ.toArray 33));have HX:=N53;have HZ:=N64;have HB:=N3;have HSZ:=N43;have HRA:=N28;have ⟨HW,HY,HTL,HD,HN⟩:=hh5 hW hY htl hD hn;rw [htn,htm] at HT1;have i1:(0:Int)≤j:=by omega
 have i2:(j:Int) < L.th.n:=by omega
 clear htl hY hD htt T hr htn htm hQ1 R hW htw hQ hn;unfold woV
 go_enter Tryz.func52,Tryz.ntmps52
 go_upto_region 1 with fail
 rw [←HW.out];obtain ⟨k5,-⟩:=HX.out 5 _ rfl;rw [HTL.out] at k5
 go_upto_region 2 with (first | (refine wpList_load_mid rfl 46 _ rfl tb (tq+j*13) rfl (thC t ta tn tc qa tm qc) _ HRA.out Tryz.underlying46 rfl (by kernel_rfl) ?_) | (refine a_c rfl 46 _ _ rfl W.heap.size (thC t ta tn tc qa tm qc).toArray rfl rfl _ (a_e thN W.heap.size rfl) rfl (by kernel_rfl) (a_L _ _ _ _ _ _ _) ?_;intro V HV))
 rw [HSZ.out];simp only [Act.put];have HX2:=N31;have HZ2:=N75;have HT2:=N91;have HB2:=N27;have HS2:=N119;clear HV HX HZ HB HSZ HRA HW k5 i1 i2;have HT3:=N65;have HR3:=N109;obtain ⟨V2,hV2⟩:=nm (((V.setCell ⟨w.heap.size+2,10,none⟩ (.int .i64 2)).setCell ⟨w.heap.size+2,11,none⟩ (.int .i64 e)));have HT2':=hid (show a_p V2 (w.heap.size+2) (thC (b_w t e) ta tn tc qa tm qc) by have h:=(a_y (a_y HT2.out 10 (by simp) (.int .i64 2)) 11 (by simp) (.int .i64 e));rw [hV2];exact h);have HX2':=hid (show a_p V2 _ _ by rw [hV2];exact a_l (a_l (HX2.out) (by omega) _) (by omega) _);have HZ2':=hid (show a_p V2 _ _ by rw [hV2];exact a_l (a_l (HZ2.out) (by omega) _) (by omega) _);have hkV2:Kept Q1 V V2:=by rw [hV2];exact (a_3 (a_U _ _ _ (fun b hb=>by show b≠w.heap.size+2;have:=HQ2.out.2.1 b hb;omega)) (a_U _ _ _ (fun b hb=>by show b≠w.heap.size+2;have:=HQ2.out.2.1 b hb;omega)))
 have HB2':=hid (show Below w.heap.size w V2 by rw [hV2];exact ((HB2.out.setCell (p:=⟨w.heap.size+2,10,none⟩) (by show _≤w.heap.size+2;omega) _).setCell (p:=⟨w.heap.size+2,11,none⟩) (by show _≤w.heap.size+2;omega) _));have HS2':=hid (show V2.heap.size=V.heap.size by rw [hV2];simp);have HV2:=hid hV2;clear hV2;obtain ⟨c10,g10⟩:=HT2.out 10 _ rfl;obtain ⟨c11,g11⟩:=HT2.out 11 _ rfl
 go_upto_region 4 with fail
 rw [←HV2.out];clear c10 g10 c11 g11
 have h0:Calls Tryz.prog 53 #[woV L D,.int .i64 j,thV (b_w t e) ta tn tc qa tm qc] V2 (b_D Q1 Y V2):=by
  have h:=c_U Q1 L X j (b_w t e) ta tc qa qc V2 (a_z hkV2 HR3.out) (by rw [show (b_w t e).fs.length=tn from HTN.out.1,show (b_w t e).lf.length=tm from HTN.out.2];exact d_c (a_v hkV2 HT3.out)) (fun b hb=>HQ2.out.2.2 b (by have:=HS2'.out;have:=HS2.out;omega)) HN.out;rw [show (b_w t e).fs.length=tn from HTN.out.1,show (b_w t e).lf.length=tm from HTN.out.2,HD.out,HY.out] at h;exact h
 have HYD:=hid (show Y.D=D by rw [←HY.out,←HD.out];rfl);have HC:=hid h0;clear h0
 go_wp2_with (first | (refine wpList_load_mid rfl 33 _ rfl (w.heap.size) 0 rfl (woC L D) _ (a_f HX2'.out) Tryz.underlying33 rfl (by kernel_rfl) ?_) | (refine wpList_load_mid rfl 46 _ rfl (w.heap.size+2) 0 rfl (thC (b_w t e) ta tn tc qa tm qc) _ (a_f HT2'.out) Tryz.underlying46 rfl (by kernel_rfl) ?_))
 refine HC.out.mono ?_;rintro e9 w9 ⟨L9,rfl,R9,hb9⟩;have HZ9:=hid (a_h hb9 HZ2'.out);have HB9:=hid (a_a HB2'.out hb9);have HR9:=hid R9;clear hb9 R9 HC;rw [HYD.out]
 go_wp2_with (refine a_c rfl 33 _ _ rfl (w.heap.size+1) (woC L9 D).toArray rfl rfl _ HZ9.out rfl (by kernel_rfl) (b_p _ _) ?_;intro U HU)
 have HZ10:=N26;refine a_X ⟨w.heap.size+1,0,none⟩ rfl rfl rfl (a_E HZ10.out 33 Tryz.underlying33 rfl (by kernel_rfl)) ?_;have hkU:=N8;exact a_Z (L:=L9) (by rw [HYD.out]) (a_D HQ2.out.1 (a_z hkU HR9.out)) (by rw [HU.out];exact a_g (by omega) HB9.out)
end Go.Proofs.YtogdpojnbgeknaaGreatDoor
namespace Go.Proofs.YtogdpojnbgeknaaGreatDoor
open Go.ChangeShapes Go.WideShapes Go.ChangeAt Go.RowKit
theorem n_x {ts:List Int} {i j:Nat} {t:Int}:e_B (k_o ts i t j) ((i+j:Nat):Int) t=k_o ts i t (j+1):=by
 rw [h_K];rfl
def SlN (N:Nat) (w:World) (a:Option Addr) (n:Nat) (zs:List Int):Prop:=zs.length=n∧(n=0∨∃ b o,a=some ⟨b,o,none⟩∧b≠N∧Row w b o zs)
theorem SlN.sl {N:Nat} {w:World} {a:Option Addr} {n:Nat} {zs:List Int} (h:SlN N w a n zs):Sl w a n zs:=⟨h.1,h.2.imp id fun ⟨b,o,e,_,r⟩=>⟨b,o,e,r⟩⟩
def SlNQ (Q:Nat→Prop) (N:Nat) (w:World) (a:Option Addr) (n:Nat) (zs:List Int):Prop:=SlP (fun b=>b≠N∧Q b) w a n zs
theorem SlNQ.sl {Q:Nat→Prop} {N:Nat} {w:World} {a:Option Addr} {n:Nat} {zs:List Int} (h:SlNQ Q N w a n zs):Sl w a n zs:=SlP.sl h
theorem r_z {Q:Nat→Prop} {N:Nat} {w:World} {a:Option Addr} {n:Nat} {zs:List Int} (h:SlP Q w a n zs) (hN:w.heap.size≤N):SlNQ Q N w a n zs:=by
  refine ⟨h.1,?_⟩
  by_cases h0:n=0
  · exact .inl h0
  · obtain ⟨b,o,e,q,r⟩:=h.2.resolve_left h0
    refine .inr ⟨b,o,e,⟨?_,q⟩,r⟩;have:=b_d (r 0 (by rw [h.1];omega));simp only at this;omega
theorem r_y {Q:Nat→Prop} {N F:Nat} {w:World} {a:Option Addr} {n:Nat} {zs:List Int} (h:SlF F w a n zs) (hN:N < F) (hQ:∀ b,F≤b→Q b):SlNQ Q N w a n zs:=
  ⟨h.1,h.2.imp id fun ⟨b,o,e,hb,r⟩=>⟨b,o,e,⟨by omega,hQ b hb⟩,r⟩⟩
theorem n_l {Q:Nat→Prop} {N:Nat} {w w':World} {a:Option Addr} {n:Nat} {zs:List Int} (hb:Below w.heap.size w w') (h:SlNQ Q N w a n zs):SlNQ Q N w' a n zs:=a_r (fun _ _ _ _ h=>a_t hb h) h
theorem m_m {Q:Nat→Prop} {N:Nat} {w:World} {a:Option Addr} {n:Nat} {zs:List Int} (h:SlNQ Q N w a n zs) (i:Nat) (v:Value):SlNQ Q N (w.setCell ⟨N,i,none⟩ v) a n zs:=c_z ⟨N,i,none⟩ (fun _ h=>h.1) v h
def t_K (Q:Nat→Prop) (ts:List Int) (i:Nat) (tag:Int) (n:Nat) (W:World) (j:Nat) (v:Value) (wr:World):Prop:=
  f_o (j_g tag) ts i j=0∧(∃ p d,v=.slice p n d∧SlNQ Q (W.heap.size - 1) wr p n (k_o ts i tag j))∧Below W.heap.size W wr
theorem i_W (b1 o1 b2 o2 n c c':Nat) (ws ts:List Int) (i k:Nat) (tag:Int) (w:World) (Q:Nat→Prop) (hQ:∀ b,w.heap.size≤b→Q b) (hg:tag=1∨tag=2)
    (S1:SlP Q w (some ⟨b1,o1,none⟩) n ws) (S2:SlP Q w (some ⟨b2,o2,none⟩) n ts) (hn:ws.length=n) (hn':ts.length=n) (R2:Row w b2 o2 ts) (hm:d_g ws ts=true) (hk:1≤k) (hik:i+k≤n) (z4:n≤160) :
    Calls Tryz.prog 104 #[.agg #[.slice (some ⟨b1,o1,none⟩) n c,.slice (some ⟨b2,o2,none⟩) n c'],.int .i64 i,.int .i64 k,.int .i64 tag] w (k_s Q (c_5 ws ts i k tag) (c_O ws ts i k tag) (c_F ws ts i k tag) w):=by
  have ⟨Hn',Hm⟩:=hh2 hn' hm;have HT:=Lib.hid (fun j (hj:j < ts.length)=>g_P hm j (by rw [hn,←hn'];exact hj));have HI:b_7 ws.length i k=true:=by simp [b_7];omega
  have ⟨HI',S1',S2',HG,HQQ⟩:=hh5 HI S1 S2 hg hQ;clear hn hn' hm HI S1;have t0:decide ((k:Int) < 1)=false:=by simp;omega
  have t1:decide ((i:Int) < 0)=false:=by simp
  have t2:decide (n≤i)=false:=by simp;omega
  have t3:decide ((n:Int) - i < k)=false:=by simp;omega
  have b0:(tag=1∧(tag==1)=true∧(tag==2)=false)∨(tag=2∧(tag==1)=false∧(tag==2)=true):=by
    rcases hg with rfl | rfl <;> simp
  clear hg
  rcases b0 with ⟨h1,b1',b2'⟩ | ⟨h1,b1',b2'⟩
  all_goals
    have HF:=Lib.hid h1;clear h1
    go_enter Tryz.func104,Tryz.ntmps104
    go_wp2
    obtain ⟨W,hW⟩:=nm ((w.alloc (Obj.cells #[.slice (some ⟨b1,o1,none⟩) n c,.slice (some ⟨b2,o2,none⟩) n c'] 26)).alloc (Obj.cells #[.slice none 0 0,.slice none 0 0] 26));have m0:W.cell? ⟨w.heap.size,0,none⟩=some (.slice (some ⟨b1,o1,none⟩) n c):=by rw [hW];exact a_8 _ (by simp)
    have m1:W.cell? ⟨w.heap.size,1,none⟩=some (.slice (some ⟨b2,o2,none⟩) n c'):=by rw [hW];exact a_8 _ (by simp)
    have m2:=N226;have m3:=N227;have m4:W.frozen? ⟨w.heap.size+1,0,none⟩=false:=by rw [hW];exact b_F (a_4 _ _ _ (by simp))
    have m5:W.frozen? ⟨w.heap.size+1,1,none⟩=false:=by rw [hW];exact b_F (a_4 _ _ _ (by simp))
    have hbW:=N2;have hWs:W.heap.size=w.heap.size+1+1:=by rw [hW];simp
    rw [←hW];have ⟨M0,M1,M2,M3,M4,M5,HBW,HWS⟩:=hh8 m0 m1 m2 m3 m4 m5 hbW hWs;clear hW m0 m1 m2 m3 m4 m5 hbW hWs
    go_loopw [10,11] (fun v s wr=>∃ j:Nat,j≤k∧s=.int .i64 ((i+j:Nat):Int)∧Hid (t_K Q ts i tag n W j v wr)) (fun _ s _=>i+k - (intOf s).toNat)
    case atStart=>exact ⟨0,by omega,rfl,rfl,⟨_,_,rfl,n_l HBW.out (r_z S2'.out (by rw [HWS.out];omega))⟩,Below.refl _ _⟩
    case round =>
      obtain ⟨j,hj,rfl,hr⟩:=hrel;obtain ⟨p,d,rfl,hp⟩:=hr.out.2.1;have HB:=Lib.hid hr.out.2.2;have HP:=Lib.hid hp;have HR:=Lib.hid hr.out.1;have n0:=a_t HB.out M0.out;have n1:=a_t HB.out M1.out;have n2:=a_t HB.out M2.out;have n3:=a_t HB.out M3.out;have n4:wr.frozen? ⟨w.heap.size+1,0,none⟩=false:=(HB.out.frozen (b_d M2.out)).trans M4.out;have n5:wr.frozen? ⟨w.heap.size+1,1,none⟩=false:=(HB.out.frozen (b_d M3.out)).trans M5.out;have hbw:=HBW.out.trans (HB.out.mono (by rw [HWS.out];omega));clear hp hr
      by_cases hlt:j < k
      · have hij:i+j < n:=by omega
        have g1:=a_t hbw (R2 (i+j) (by rw [Hn'.out];exact hij));have HT1:=HT.out (i+j) (by rw [Hn'.out];exact hij);have HST:=Lib.hid (j_N (k:=k) Hm.out HI'.out HG.out hlt HR.out);have HGO:=Lib.hid (fun (he:j_g tag (ts.getD (i+j) 0)=0)=>show f_o (j_g tag) ts i (j+1)=0 by simp only [f_o];rw [if_pos HR.out,he])
        generalize ts.getD (i+j) 0=tv at g1 HT1 HGO HST
        have HV:tv=0∨tv=1∨tv=2:=by omega
        clear HT1
        by_cases hz:j_g tag tv=0
        · have HS1:=Lib.hid (HGO.out hz)
          have HN:=Lib.hid (show (k_o ts i tag j).length=n by rw [d_m];exact Hn'.out)
          rcases HV with rfl | rfl | rfl
          all_goals first
            | (exfalso;revert hz;rw [HF.out];decide)
            | (clear hz
               go_wp2_with fail
               rw [show ((i:Int)+(j:Int))=((i+j:Nat):Int) by omega];refine (l_K p n d _ ((i+j:Nat):Int) tag _ HP.out.sl (by omega)).mono ?_;rw [n_x];rintro e w5 ⟨p5,d5,rfl,s5,hb5⟩;have hl5:(k_o ts i tag (j+1)).length=n:=by rw [d_m];exact Hn'.out
               rw [hl5] at s5 ⊢;have HB5:=Lib.hid hb5;have HS5:=Lib.hid (r_y (N:=W.heap.size - 1) s5 (by have:=HB.out.size;have:=HWS.out;omega) (fun b hb=>HQQ.out b (by have:=HB.out.size;have:=HWS.out;omega)));have HBB:=Lib.hid (a_a HB.out hb5);clear hb5 s5 hl5 n0 n1 n2 n3 n4 n5 g1
               go_wp2
               go_roundw
               case rel=>first | exact ⟨j+1,by omega,by go_num,HS1.out,⟨_,_,rfl,HS5.out⟩,HBB.out⟩ | ((repeat apply Exists.intro);exact ⟨⟨j+1,by omega,by go_num,HS1.out,⟨_,_,rfl,HS5.out⟩,HBB.out⟩,rfl⟩)
               case measure=>simp [intOf];omega)
        · obtain ⟨x1,x2,x3⟩:=HST.out hz
          have ⟨X1,X2,X3⟩:=hh3 x1 x2 x3;clear x1 x2 x3;have HZ:=Lib.hid hz;clear hz
          rcases HV with rfl | rfl | rfl
          all_goals first
            | (exfalso;refine HZ.out ?_;rw [HF.out];decide)
            | (go_wp2
               refine a_m ⟨w.heap.size+1,0,none⟩ rfl rfl rfl (c_E _ _ _ _ (by go_cell_look) (by go_cell_look)) ?_;rw [X1.out,X2.out,X3.out,HF.out];exact ⟨_,_,_,_,_,_,rfl,d_a _ _,d_a _ _,by go_grown⟩)
      · obtain rfl:j=k:=by omega
        have HDN:=Lib.hid (j_M Hm.out HI'.out HG.out HR.out)
        go_wp2
        refine a_m ⟨w.heap.size+1,0,none⟩ rfl rfl rfl (c_E _ _ _ _ (by go_cell_look) (by go_cell_look)) ?_;rw [HDN.out.1,HDN.out.2.1,HDN.out.2.2];have HP':SlNQ Q (w.heap.size+1) wr p n (k_o ts i tag j):=by have:=HP.out;rw [HWS.out] at this;exact this
        have hF:Below w.heap.size w ((wr.setCell ⟨w.heap.size+1,0,none⟩ (.slice (some ⟨b1,o1,none⟩) n c)).setCell ⟨w.heap.size+1,1,none⟩ (.slice p n d)):=(hbw.setCell (by simp) _).setCell (by simp) _;exact ⟨_,_,_,_,_,_,rfl,a_r (fun b o v _ h=>a_t hF h) S1'.out,a_n (fun b h=>h.2) (m_m (m_m HP' _ _) _ _),hF⟩
theorem j_V (a a':Option Addr) (n c n' c':Nat) (ws ts:List Int) (i k tag:Int) (w:World) (Q:Nat→Prop) (hQ:∀ b,w.heap.size≤b→Q b) (hg:tag=1∨tag=2) (S1:SlP Q w a n ws) (S2:SlP Q w a' n' ts) (hi:(Lit.int .i64 i).wf=true) (hm:d_g ws ts=true) :
    Calls Tryz.prog 104 #[.agg #[.slice a n c,.slice a' n' c'],.int .i64 i,.int .i64 k,.int .i64 tag] w (k_s Q (c_5 ws ts i k tag) (c_O ws ts i k tag) (c_F ws ts i k tag) w):=by
  have hb0:=N80;obtain ⟨hbl,hbh⟩:=hb0;obtain ⟨z0,z1,z2⟩:=c_v hm;have hn:=S1.1;have hn':=S2.1;obtain rfl:n'=n:=by omega
  obtain ⟨-,b1,o1,rfl,R1⟩:=c_Y S1.sl (by omega);obtain ⟨-,b2,o2,rfl,R2⟩:=c_Y S2.sl (by omega)
  by_cases hw:b_7 n' i k=true
  · simp only [b_7,decide_eq_true_eq] at hw
    obtain ⟨i,rfl⟩:=Int.eq_ofNat_of_zero_le hw.2.1;obtain ⟨k,rfl⟩:=N250;exact i_W b1 o1 b2 o2 n' c c' ws ts i k tag w Q hQ hg S1 S2 hn hn' R2 hm (by omega) (by omega) (by omega)
  · have z4:n'≤160:=by omega
    have e:c_F ws ts i k tag=3:=by rw [c_F,if_pos ⟨hm,hg⟩,if_neg (by rw [hn];exact hw)]
    have E:=N42;rw [E.out.1,E.out.2.1,E.out.2.2]
    have hw':k < 1∨(1≤k∧i < 0)∨(1≤k∧0≤i∧(n':Int)≤i)∨(1≤k∧0≤i∧i < n'∧(n':Int) - i < k):=by
      simp only [b_7,decide_eq_true_eq] at hw;omega
    clear e hm hw hg z0 z1 z2 hn hn' R1 R2 S1 S2 hi
    rcases hw' with h | ⟨h,h'⟩ | ⟨h,h',h''⟩ | ⟨h,h',h'',h3⟩
    all_goals
      go_enter Tryz.func104,Tryz.ntmps104
      go_wp2
      refine a_m ⟨w.heap.size+1,0,none⟩ rfl rfl rfl (c_E _ _ _ _ (by simp;rfl) (by simp;rfl)) ?_;exact ⟨_,_,_,_,_,_,rfl,d_a _ _,d_a _ _,by go_grown⟩
end Go.Proofs.YtogdpojnbgeknaaGreatDoor
namespace Go.Proofs.YtogdpojnbgeknaaGreatDoor
open Go.ChangeShapes Go.WideShapes Go.ChangeAt Go.RowKit
open Gen
open Lib (hid)
abbrev inL (a b c d:Int):List Value:=[.int .i64 a,.int .i64 b,.int .i64 c,.int .i64 d]
theorem mem_range {w:World} {g:Nat} {L:WoL} {D:Int} (X:a_p w g (woC L D)):w.rangeAt g 1 [.slice L.ws.a L.ws.n L.ws.c,.slice L.ts.a L.ts.n L.ts.c]:=fun j v hj=>(X (1+j) v (by match j,hj with | 0,hj=>exact hj | 1,hj=>exact hj)).1
def WoL.setMem (L:WoL) (p q:Sp):WoL:={ L with ws:=p,ts:=q }
theorem i_k {Q:Nat→Prop} {w:World} {L:WoL} {X:Wo} (R:RWo Q w L X) {p q:Sp} {ws ts:List Int} (h1:SlP Q w p.a p.n ws) (h2:SlP Q w q.a q.n ts):RWo Q w (L.setMem p q) { X with ws:=ws,ts:=ts }:=
 ⟨R.co,h1,h2,R.bs,R.th,R.ev,R.cco,R.cth,R.cev⟩
abbrev inV (i:Ins):Value:=.agg #[.int .i64 i.1,.int .i64 i.2.1,.int .i64 i.2.2.1,.int .i64 i.2.2.2]
def l_I (Q1:Nat→Prop) (h:Nat) (V:World) (L:WoL) (ra rb:Nat) (op va vb tag me:Int) (MW MT:List Int):b_v:=[isV 0 (.pointer (some ⟨h,1,none⟩)),isV 1 (.pointer (some ⟨h,1,none⟩)),isV 2 (.agg #[.slice L.ws.a L.ws.n L.ws.c,.slice L.ts.a L.ts.n L.ts.c]),isV 3 (.pointer (some ⟨h+1,1,none⟩)),isV 4 (.int .i64 ra),isV 5 (.pointer (some ⟨h+3,1,none⟩)),isV 6 (.pointer (some ⟨h+3,1+ra,none⟩)),isV 7 (.int .i64 va),isV 8 (.pointer (some ⟨h+1,2,none⟩)),isV 9 (.int .i64 rb),isV 10 (.pointer (some ⟨h+3,1,none⟩)),isV 11 (.pointer (some ⟨h+3,1+rb,none⟩)),isV 12 (.int .i64 vb),isV 13 (.pointer (some ⟨h+1,0,none⟩)),isV 14 (.int .i64 op),isV 15 (.int .i64 tag),([16],fun l w=>∃ a n c a' n' c',l=[.tuple #[.agg #[.slice a n c,.slice a' n' c'],.int .i64 me]]∧SlP Q1 w a n MW∧SlP Q1 w a' n' MT),([17,16],fun l _=>∃ a n c a' n' c',l=[.tuple #[.agg #[.slice a n c,.slice a' n' c'],.int .i64 me],.tuple #[.agg #[.slice a n c,.slice a' n' c'],.int .i64 me]]),([18,16],fun l _=>∃ a n c a' n' c',l=[.agg #[.slice a n c,.slice a' n' c'],.tuple #[.agg #[.slice a n c,.slice a' n' c'],.int .i64 me]]),isV 19 (.int .i64 me),([20],fun l w=>∃ g,l=[.pointer (some ⟨g,0,none⟩)]∧V.heap.size≤g∧∃ xs,a_p w g xs∧xs.length=2),([20,16],fun l w=>∃ g a n c a' n' c',l=[.pointer (some ⟨g,0,none⟩),.tuple #[.agg #[.slice a n c,.slice a' n' c'],.int .i64 me]]∧V.heap.size≤g∧a_p w g [.slice a n c,.slice a' n' c']∧SlP (fun b=>Q1 b∧b≠g) w a n MW∧SlP (fun b=>Q1 b∧b≠g) w a' n' MT),isV 22 (.int .i64 me)]
theorem m_R (Q1:Nat→Prop) (h:Nat) (V:World) (L:WoL) (ra rb:Nat) (op va vb tag me:Int) (MW MT:List Int):c_q (l_I Q1  h  V  L  ra rb  op va vb tag me  MW MT ):=a_d<|a_d<|a_d<|a_d<|a_d<|a_d<|a_d<|a_d<|a_d<|a_d<|a_d<|a_d<|a_d<|a_d<|a_d<|a_d<|a_w (fun _ _ _ hb h=>by obtain ⟨a,n,c,a',n',c',h1,h2,h3⟩:=h;exact ⟨a,n,c,a',n',c',h1,a_r (fun _ _ _ _ h=>a_t hb h) h2,a_r (fun _ _ _ _ h=>a_t hb h) h3⟩)<|a_w (fun _ _ _ _ h=>h)<|a_w (fun _ _ _ _ h=>h)<|a_d<|a_w (fun _ _ _ hb h=>by obtain ⟨g,h1,h2,xs,h3,h4⟩:=h;exact ⟨g,h1,h2,xs,a_h hb h3,h4⟩)<|a_w (fun _ _ _ hb h=>by obtain ⟨g,a,n,c,a',n',c',h1,h2,h3,h4,h5⟩:=h;exact ⟨g,a,n,c,a',n',c',h1,h2,a_h hb h3,a_r (fun _ _ _ _ h=>a_t hb h) h4,a_r (fun _ _ _ _ h=>a_t hb h) h5⟩)<|a_d<|b_B
theorem o_j (Q1:Nat→Prop) (h:Nat) (V:World) (L:WoL) (ra rb:Nat) (op va vb tag me:Int) (MW MT:List Int):∀ j args w w',j≠16→j≠20→j≠21→b_E (l_I Q1  h  V  L  ra rb  op va vb tag me  MW MT ) j args w→b_E (l_I Q1  h  V  L  ra rb  op va vb tag me  MW MT ) j args w':=by
 intro j args w w' n0 n1 n2 h
 match j with
 | 0=>exact h
 | 1=>exact h
 | 2=>exact h
 | 3=>exact h
 | 4=>exact h
 | 5=>exact h
 | 6=>exact h
 | 7=>exact h
 | 8=>exact h
 | 9=>exact h
 | 10=>exact h
 | 11=>exact h
 | 12=>exact h
 | 13=>exact h
 | 14=>exact h
 | 15=>exact h
 | 16=>exact absurd rfl n0
 | 17=>exact h
 | 18=>exact h
 | 19=>exact h
 | 20=>exact absurd rfl n1
 | 21=>exact absurd rfl n2
 | 22=>exact h
 | _+23=>exact trivial
theorem j_L (Q:Nat→Prop) (L:WoL) (X:Wo) (j:Nat) (i:Ins) (w:World) (R:RWo Q w L X) (hj:j < L.th.n) (hQ:∀ b,w.heap.size≤b→Q b) (hn:L.th.n≤1000) (hm:d_g X.ws X.ts=true) (ha:0≤i.2.1∧i.2.1≤7) (hb:0≤i.2.2.1∧i.2.2.1≤7) (ho:i.1=24∨i.1=25) (hwf:∀ k,k < 8→(Lit.int .i64 ((thW X j).r k)).wf=true) (hpc:0≤(thW X j).pc∧(thW X j).pc≤1000) :
  Calls Tryz.prog 59 #[woV L X.D,.int .i64 j,inV i] w (b_D Q (i_O X j (thW X j) i) w):=by
 obtain ⟨Y,hY⟩:=mn (i_O X j (thW X j) i);rw [hY];obtain ⟨D,hD⟩:=mn (X.D);rw [hD];obtain ⟨tb,tq,t,ta,tc,qa,qc,htl,htt,-,T,hr⟩:=c_3 R.th hj;have htw:=N54;rw [htw] at hY;have HTW:=hid htw;rw [htw] at hwf hpc;obtain ⟨op,A,B,C⟩:=i;unfold i_O at hY;simp only at hY ha hb ho;obtain ⟨ra,hra,hra8⟩:=a_5 ha;obtain ⟨rb,hrb,hrb8⟩:=a_5 hb;subst hra hrb;have HWF:=hid (hwf ra hra8);have ⟨HM,HP⟩:=hh2 hm hpc;have HTG:=hid (show op - 23=1∨op - 23=2 by omega);have hop:wrap64 (op - 23)=op - 23:=IntWalk.wrap64_in _ (by omega);rw [show rgt t (ra:Int)=t.r ra from rfl,show rgt t (rb:Int)=t.r rb from rfl] at hY;obtain ⟨va,hva⟩:=mn (t.r ra);obtain ⟨vb,hvb⟩:=mn (t.r rb);obtain ⟨tag,htag⟩:=mn (op - 23);rw [htag] at hY HTG hop;have hop2:wrap64 (op - 23)=tag:=by rw [htag];exact hop
 rw [hva,hvb] at hY;obtain ⟨me,hme⟩:=mn (c_F X.ws X.ts va vb tag);rw [hme] at hY;have HVA:=hid (And.intro hva hvb);have HME:=hid hme;have i3:(0:Int)≤ra:=by omega
 have i4:(ra:Int) < 8:=by omega
 have i5:(0:Int)≤rb:=by omega
 have i6:(rb:Int) < 8:=by omega
 have HOP:=hid hop2;rw [hva] at HWF;clear hwf hm hpc ha hb ho hop htag hva hvb hme hop2;obtain ⟨tn,htn⟩:=mn (t.fs.length);obtain ⟨tm,htm⟩:=mn (t.lf.length);have HTN:=hid (And.intro htn htm);obtain ⟨Q1,hQ1⟩:∃ Q1:Nat→Prop,Q1=fun b=>Q b∧(b < w.heap.size∨w.heap.size+4≤b):=⟨_,rfl⟩
 have HQ1:=hid hQ1;have HQ2:=N57;have HR1:=N41;have HT1:=N36;obtain ⟨W,hW⟩:=nm (((w.alloc (Obj.cells (woC L D).toArray 33)).alloc (Obj.cells (inL op ra rb C).toArray 66)).alloc (Obj.cells woZ.toArray 33));have HX:=N71;have HI:=hid (show a_p W (w.heap.size+1) (inL op ra rb C) by rw [hW];exact a_s _ (a_e _ _ (by simp)));have HZ:=N84;have HB:=N3;have HSZ:=N124;have HRA:=N28;have ⟨HW,HY,HTL,HD,HN⟩:=hh5 hW hY htl hD hn;rw [htn,htm] at HT1;have i1:(0:Int)≤j:=by omega
 have i2:(j:Int) < L.th.n:=by omega
 clear htl hY hD htt T hr htn htm hQ1 R hW htw hQ hn;unfold woV
 go_enter Tryz.func59,Tryz.ntmps59
 go_upto_region 1 with fail
 rw [←HW.out];obtain ⟨k5,-⟩:=HX.out 5 _ rfl;rw [HTL.out] at k5
 go_upto_region 2 with (first | (refine wpList_load_mid rfl 46 _ rfl tb (tq+j*13) rfl (thC t ta tn tc qa tm qc) _ HRA.out Tryz.underlying46 rfl (by kernel_rfl) ?_) | (refine a_c rfl 46 _ _ rfl W.heap.size (thC t ta tn tc qa tm qc).toArray rfl rfl _ (a_e thN W.heap.size rfl) rfl (by kernel_rfl) (a_L _ _ _ _ _ _ _) ?_;intro V HV))
 rw [HSZ.out];simp only [Act.put];have HX2:=N31;have HI2:=hid (show a_p V (w.heap.size+1) (inL op ra rb C) by rw [HV.out];exact a_j (by have:=HSZ.out;omega) (a_s _ HI.out));have HZ2:=N114;have HT2:=N92;have HB2:=N27;have HS2:=N157;clear HV HX HZ HB HSZ HRA HW k5 i1 i2 HI;obtain ⟨x1,-⟩:=HX2.out 1 _ rfl;obtain ⟨x2,-⟩:=HX2.out 2 _ rfl;obtain ⟨y0,-⟩:=HI2.out 0 _ rfl;obtain ⟨y1,-⟩:=HI2.out 1 _ rfl;obtain ⟨y2,-⟩:=HI2.out 2 _ rfl;obtain ⟨za,-⟩:=HT2.out (1+ra) _ (c_J t.r ra hra8 _ _);obtain ⟨zb,-⟩:=HT2.out (1+rb) _ (c_J t.r rb hrb8 _ _);have HRV:=hid (show RWo (fun b=>Q1 b∧b < V.heap.size) V L X from c_h (b_q HB2.out HR1.out));have HT3:=N65;rw [HVA.out.1] at za;rw [HVA.out.2] at zb
 have HMK:=hid (show ∀ u,Below V.heap.size V u→Calls Tryz.prog 104 #[.agg #[.slice L.ws.a L.ws.n L.ws.c,.slice L.ts.a L.ts.n L.ts.c],.int .i64 va,.int .i64 vb,.int .i64 tag] u (fun e w'=>∃ a n c a' n' c',e=.returned (.tuple #[.agg #[.slice a n c,.slice a' n' c'],.int .i64 me])∧SlP (fun b=>Q1 b∧(b < V.heap.size∨u.heap.size≤b)) w' a n (c_5 X.ws X.ts va vb tag)∧SlP (fun b=>Q1 b∧(b < V.heap.size∨u.heap.size≤b)) w' a' n' (c_O X.ws X.ts va vb tag)∧Below u.heap.size u w') from fun u hu=>by
  have h:=j_V L.ws.a L.ts.a L.ws.n L.ws.c L.ts.n L.ts.c X.ws X.ts va vb tag u (fun b=>Q1 b∧(b < V.heap.size∨u.heap.size≤b)) (fun b hb=>⟨HQ2.out.2.2 b (by have:=hu.size;have:=HS2.out;omega),.inr hb⟩) HTG.out (a_r (fun _ _ _ _ h=>a_t hu h) (a_n (fun b h=>⟨h.1,.inl h.2⟩) HRV.out.ws)) (a_r (fun _ _ _ _ h=>a_t hu h) (a_n (fun b h=>⟨h.1,.inl h.2⟩) HRV.out.ts)) HWF.out HM.out;rw [HME.out] at h;exact h)
 have hG:=m_R Q1 w.heap.size V L ra rb op va vb tag me (c_5 X.ws X.ts va vb tag) (c_O X.ws X.ts va vb tag);refine d_K [some 16,some 17,some 18,some 19,some 20,some 21,some 22,some 23,some 24,some 25,some 26,some 27,some 28,some 29,some 30,some 31,some 32,some 15,some 33,some 34,some 8,none,some 9] (fun w'=>Below V.heap.size V w') (l_I Q1 w.heap.size V L ra rb op va vb tag me (c_5 X.ws X.ts va vb tag) (c_O X.ws X.ts va vb tag)) 16 20 (fun x y w=>∃ a n c a' n' c' e g,x=.tuple #[.agg #[.slice a n c,.slice a' n' c'],.int .i64 e]∧y=.pointer (some ⟨g,0,none⟩)∧SlP (fun b=>Q1 b∧b≠g) w a n (c_5 X.ws X.ts va vb tag)∧SlP (fun b=>Q1 b∧b≠g) w a' n' (c_O X.ws X.ts va vb tag)) (by kernel_rfl) (by kernel_rfl) (by decide) rfl ((Below.refl _ _).drew) ?_ ?_
 ·show StepsL _ _ _ _ _ _ _
  refine InvD.c (fun _ _ w1 C _ hK=>oR C hK (h:=by simp [execOp,go_sem,C.o 3 (.pointer (some ⟨w.heap.size,0,none⟩))])) ?_;refine InvD.c (fun _ _ w1 C _ hK=>oR C hK (h:=by simp [execOp,go_sem,C.i 0])) ?_;refine InvD.c (fun a1 vals w1 C K hK=>?_) ?_
  ·have e0:=C.i 1;exact a_i rfl (wp_load_mid 26 _ rfl (w.heap.size) (1) ((a_P a1 _).symm.trans e0) [.slice L.ws.a L.ws.n L.ws.c,.slice L.ts.a L.ts.n L.ts.c] _ (mem_range (a_h C.base HX2.out)) Tryz.underlying26 rfl (by kernel_rfl) (d_e hK C rfl rfl))
  refine InvD.c (fun _ _ w1 C _ hK=>oR C hK (h:=by simp [execOp,go_sem,C.o 5 (.pointer (some ⟨w.heap.size+1,0,none⟩))])) ?_;refine InvD.c (fun _ _ w1 C _ hK=>oR C hK (h:=by simp [execOp,go_sem,C.i 3,a_t C.base y1])) ?_;refine InvD.c (fun _ _ w1 C _ hK=>oR C hK (h:=by simp [execOp,go_sem,C.o 7 (.pointer (some ⟨w.heap.size+3,0,none⟩))])) ?_;refine InvD.c (fun _ _ w1 C _ hK=>oR C hK (h:=by simp [execOp,go_sem,C.i 4,C.i 5,i3,i4])) ?_;refine InvD.c (fun _ _ w1 C _ hK=>oR C hK (h:=by simp [execOp,go_sem,C.i 6,a_t C.base za])) ?_;refine InvD.c (fun _ _ w1 C _ hK=>oR C hK (h:=by simp [execOp,go_sem,C.o 5 (.pointer (some ⟨w.heap.size+1,0,none⟩))])) ?_;refine InvD.c (fun _ _ w1 C _ hK=>oR C hK (h:=by simp [execOp,go_sem,C.i 8,a_t C.base y2])) ?_;refine InvD.c (fun _ _ w1 C _ hK=>oR C hK (h:=by simp [execOp,go_sem,C.o 7 (.pointer (some ⟨w.heap.size+3,0,none⟩))])) ?_;refine InvD.c (fun _ _ w1 C _ hK=>oR C hK (h:=by simp [execOp,go_sem,C.i 9,C.i 10,i5,i6])) ?_;refine InvD.c (fun _ _ w1 C _ hK=>oR C hK (h:=by simp [execOp,go_sem,C.i 11,a_t C.base zb])) ?_;refine InvD.c (fun _ _ w1 C _ hK=>oR C hK (h:=by simp [execOp,go_sem,C.o 5 (.pointer (some ⟨w.heap.size+1,0,none⟩))])) ?_;refine InvD.c (fun _ _ w1 C _ hK=>oR C hK (h:=by simp [execOp,go_sem,C.i 13,a_t C.base y0])) ?_;refine InvD.c (fun _ _ w1 C _ hK=>oR C hK (h:=by simp [execOp,go_sem,C.i 14,HOP.out,IntWalk.i64_left])) ?_;refine InvD.c (fun a1 vals w1 C K hK=>?_) ?_
  ·have e0:=C.i 2;have e1:=C.i 7;have e2:=C.i 12;have e3:=C.i 15;rw [a_P] at e0 e1 e2 e3;refine a_i rfl (a_Q _ _ _ rfl 104 rfl [.agg #[.slice L.ws.a L.ws.n L.ws.c,.slice L.ts.a L.ts.n L.ts.c],.int .i64 va,.int .i64 vb,.int .i64 tag] (by simp only [List.map_cons,List.map_nil,e0,e1,e2,e3]) (by kernel_rfl) ((HMK.out w1 C.base).mono ?_));rintro e9 w2 ⟨a,n,c,a',n',c',rfl,h1,h2,hb2⟩;refine ⟨_,rfl,hK _ w2 ⟨a,n,c,a',n',c',rfl,a_n (fun _ h=>h.1) h1,a_n (fun _ h=>h.1) h2⟩ (a_a C.base hb2) (fun j _ h=>hG j _ _ _ hb2 h) (fun h=>absurd rfl h) (fun _ _ hy=>?_) (fun e=>absurd e (by decide)) (fun _ e=>absurd e (by decide))⟩;obtain ⟨g,hg1,hg2,xs,hx,hx2⟩:=hy;have hlt:=a_N hx (by omega);exact ⟨a,n,c,a',n',c',me,g,rfl,List.head_eq_of_cons_eq hg1,a_n (fun b h=>⟨h.1,by have:=h.2;omega⟩) h1,a_n (fun b h=>⟨h.1,by have:=h.2;omega⟩) h2⟩
  refine InvD.c (fun a1 vals w1 C K hK=>?_) ?_
  ·have e0:=C.t 16 32 rfl rfl;obtain ⟨a,n,c,a',n',c',h1,-⟩:=C.says 16 rfl;refine a_i rfl (a_A (v:=vals 16) ?_ (d_e hK C rfl ⟨a,n,c,a',n',c',by show [vals 16,vals 16]=_;rw [List.head_eq_of_cons_eq h1]⟩));simp [execOp,go_sem,e0]
  refine InvD.c (fun a1 vals w1 C K hK=>?_) ?_
  ·have e0:=C.t 17 15 rfl rfl;obtain ⟨a,n,c,a',n',c',h1⟩:=C.says 17 rfl;have h2:=N160;have h3:=N78;rw [h2] at e0;refine a_i rfl (a_A (v:=.agg #[.slice a n c,.slice a' n' c']) ?_ (d_e hK C rfl (⟨a,n,c,a',n',c',by show [.agg #[.slice a n c,.slice a' n' c'],vals 16]=_;rw [h3]⟩)));simp [execOp,go_sem,e0]
  refine InvD.c (fun a1 vals w1 C K hK=>?_) ?_
  ·have e0:=C.t 17 15 rfl rfl;obtain ⟨a,n,c,a',n',c',h1⟩:=C.says 17 rfl;have h2:=N160;have h3:=N78;rw [h2] at e0;refine a_i rfl (a_A (v:=.int .i64 me) ?_ (d_e hK C rfl (rfl)));simp [execOp,go_sem,e0]
  refine InvD.c (fun a1 vals w1 C K hK=>?_) ?_
  ·have hbs:=C.base.size;have hA:Below w1.heap.size w1 (w1.alloc (Obj.cells #[.slice none 0 0,.slice none 0 0] 26)):=(Below.refl _ _).alloc (Nat.le_refl _) _;refine a_i rfl (a_A (v:=.pointer (some ⟨w1.heap.size,0,none⟩)) (w':=w1.alloc (Obj.cells #[.slice none 0 0,.slice none 0 0] 26)) ?_ (hK _ _ ⟨w1.heap.size,rfl,hbs,[.slice none 0 0,.slice none 0 0],a_e _ _ rfl,rfl⟩ (C.base.alloc hbs _) (fun j _ h=>hG j _ _ _ hA h) (fun _ h=>absurd rfl h) (fun e=>absurd e (by decide)) (fun _ _ hy=>?_) (fun e=>absurd e (by decide))))
   ·simp [execOp,go_sem]
   ·obtain ⟨a,n,c,a',n',c',h1,h2,h3⟩:=hy;exact ⟨a,n,c,a',n',c',me,w1.heap.size,List.head_eq_of_cons_eq h1,rfl,a_r (fun _ _ _ _ h=>a_8 _ h) (a_n (fun b h=>⟨h.1,by have:=h.2;omega⟩) (c_j h2)),a_r (fun _ _ _ _ h=>a_8 _ h) (a_n (fun b h=>⟨h.1,by have:=h.2;omega⟩) (c_j h3))⟩
  refine InvD.c (fun a1 vals w1 C K hK=>?_) ?_
  ·have e0:=C.v 20 8 rfl rfl;have e1:=C.v 18 33 rfl rfl;obtain ⟨g,g1,g2,xs,hx,hx2⟩:=C.says 20 rfl;obtain ⟨a,n,c,a',n',c',h1⟩:=C.says 18 rfl;have y0:=N242;have y1:vals 18=.agg #[.slice a n c,.slice a' n' c']:=List.head_eq_of_cons_eq h1;have y2:=N78;obtain ⟨b,m,d,b',m',d',e',gg,q1,q2,q3,q4⟩:=C.two rfl rfl rfl rfl;rw [y2] at q1;rw [y0] at q2
   cases q1
   cases q2
   rw [y0] at e0;rw [y1] at e1;refine a_i rfl (a_7 26 _ _ rfl g #[.slice a n c,.slice a' n' c'] e0 e1 xs hx (by rw [hx2];rfl) (by kernel_rfl) (by simp [Value.oneCell']) ?_);intro U HU;have hUx:a_p U g [.slice a n c,.slice a' n' c']:=by rw [HU.out];exact a_q hx (by rw [hx2];rfl)
   have hk:=N113;have q5:=a_r (w':=U) hk q3;have q6:=a_r (w':=U) hk q4;refine hK _ U ⟨g,a,n,c,a',n',c',by show [vals 20,vals 16]=_;rw [y0,y2],g2,hUx,q5,q6⟩ (by rw [HU.out];exact a_g g2 C.base) (fun j hj h=>?_) (fun _ _ _=>⟨a,n,c,a',n',c',me,g,y2,y0,q5,q6⟩) (fun e=>absurd e (by decide)) (fun e=>absurd e (by decide)) (fun e=>absurd e (by decide))
   by_cases j16:j=16
   ·subst j16;exact ⟨a,n,c,a',n',c',by show [vals 16]=_;rw [y2],a_n (fun _ h=>h.1) q5,a_n (fun _ h=>h.1) q6⟩
   ·by_cases j20:j=20
    ·subst j20;exact ⟨g,by show [vals 20]=_;rw [y0],g2,_,hUx,rfl⟩
    ·exact o_j _ _ _ _ _ _ _ _ _ _ _ _ _ _ _ _ _ j16 j20 hj h
  refine InvD.c (fun _ _ w1 C _ hK=>oR C hK (h:=by simp [execOp,go_sem,C.i 19])) ?_;exact StepsL.nil
 ·intro vals w1 hb hv hbo;obtain ⟨g,a,n,c,a',n',c',e1,g2,hm,q5,q6⟩:=hv 21 (by decide);have y20:=N243;have y22:vals 22=.int .i64 me:=List.head_eq_of_cons_eq (hv 22 (by decide));simp only [c_N,Act.put,sA,sB,sC,y20,y22];have HBV:=hid hb;have HX:=hid (a_h hb HX2.out);have HZ:=hid (a_h hb HZ2.out);have HT:=hid (a_h hb HT2.out);have HMV:=hid hm;have HB:=hid (a_a HB2.out hb);have HRR:=hid (show RWo Q1 w1 L X from a_D (fun _ h=>h.1) (b_q hb HRV.out));have HTT:=hid (a_v (a_C hb) HT3.out);have HQM:=hid (And.intro q5 q6);have HSZ:=hid (show w.heap.size+4≤w1.heap.size by have:=hb.size;have:=HS2.out;omega);have HGG:=hid (show w.heap.size+4≤g by have:=HS2.out;omega);clear hb hbo hv e1 y20 y22 hm q5 q6 g2 HX2 HI2 HZ2 HT2 HB2 HMK HT3 HRV x1 x2 y0 y1 y2 za zb hG i3 i4 i5 i6
  by_cases me0:me=0
  ·subst me0;have HMW:=hid (show c_5 X.ws X.ts va vb tag=X.ws by rw [c_5,if_pos HME.out]);have hp1:0≤t.pc:=HP.out.1;have hp2:t.pc≤1000:=HP.out.2;obtain ⟨V2,hV2⟩:=nm ((((w1.setCell ⟨w.heap.size,1,none⟩ (.slice a n c)).setCell ⟨w.heap.size,2,none⟩ (.slice a' n' c')).setCell ⟨(w.heap.size+3),0,none⟩ (.int .i64 (t.pc+1))));have HXs:=hid (show a_p V2 (w.heap.size) (woC (L.setMem ⟨a,n,c⟩ ⟨a',n',c'⟩) D) by have h:=(a_l (g':=(w.heap.size+3)) (o:=0) (a_y (a_y HX.out 1 (by simp) (.slice a n c)) 2 (by simp) (.slice a' n' c')) (by omega) (.int .i64 (t.pc+1)));rw [hV2];exact h);have HZs:=hid (show a_p V2 (w.heap.size+2) _ by rw [hV2];exact (a_l (g':=(w.heap.size+3)) (o:=0) (a_l (g':=w.heap.size) (o:=2) (a_l (g':=w.heap.size) (o:=1) HZ.out (by omega) (.slice a n c)) (by omega) (.slice a' n' c')) (by omega) (.int .i64 (t.pc+1))));have HTs:=hid (show a_p V2 ((w.heap.size+3)) (thC (b_j t) ta tn tc qa tm qc) by have h:=(a_y (a_l (g':=w.heap.size) (o:=2) (a_l (g':=w.heap.size) (o:=1) HT.out (by omega) (.slice a n c)) (by omega) (.slice a' n' c')) 0 (by simp) (.int .i64 (t.pc+1)));rw [hV2];exact h);have hkV2:Kept Q1 w1 V2:=by rw [hV2];exact (a_3 (a_3 (a_U _ _ _ (fun b hb=>by show b≠w.heap.size;have:=HQ2.out.2.1 b hb;omega)) (a_U _ _ _ (fun b hb=>by show b≠w.heap.size;have:=HQ2.out.2.1 b hb;omega))) (a_U _ _ _ (fun b hb=>by show b≠(w.heap.size+3);have:=HQ2.out.2.1 b hb;omega)))
   have HBs:=hid (show Below w.heap.size w V2 by rw [hV2];exact (((HB.out.setCell (p:=⟨w.heap.size,1,none⟩) (by show _≤w.heap.size;omega) _).setCell (p:=⟨w.heap.size,2,none⟩) (by show _≤w.heap.size;omega) _).setCell (p:=⟨(w.heap.size+3),0,none⟩) (by show _≤(w.heap.size+3);omega) _));have HZV2:=hid (show V2.heap.size=w1.heap.size by rw [hV2];simp);have HV2:=hid hV2;clear hV2;obtain ⟨x1,f1⟩:=HX.out 1 _ rfl;obtain ⟨x2,f2⟩:=HX.out 2 _ rfl;obtain ⟨z0,f0⟩:=HT.out 0 _ rfl
   go_upto_region 7 with (refine wpList_load_mid rfl 26 _ rfl g 0 rfl [.slice a n c,.slice a' n' c'] _ (a_f HMV.out) Tryz.underlying26 rfl (by kernel_rfl) ?_)
   rw [←HV2.out];clear x1 x2 z0 f0 f1 f2 hp1 hp2;obtain ⟨X2,hX2⟩:∃ X2:Wo,X2={ X with ws:=c_5 X.ws X.ts va vb tag,ts:=c_O X.ws X.ts va vb tag }:=⟨_,rfl⟩;have HX2:=hid (show X2.D=D∧X2={ X with ws:=c_5 X.ws X.ts va vb tag,ts:=c_O X.ws X.ts va vb tag } from ⟨by rw [hX2];exact HD.out,hX2⟩);clear hX2;have HYF:=hid (show b_k X2 j (b_j t)=Y by rw [HX2.out.2,←HY.out,if_pos rfl,HMW.out];rfl);have HR3:=hid (show RWo Q1 V2 (L.setMem ⟨a,n,c⟩ ⟨a',n',c'⟩) X2 by rw [HX2.out.2];exact i_k (a_z hkV2 HRR.out) (a_r hkV2 (a_n (fun _ h=>h.1) HQM.out.1)) (a_r hkV2 (a_n (fun _ h=>h.1) HQM.out.2)))
   have h0:Calls Tryz.prog 53 #[woV (L.setMem ⟨a,n,c⟩ ⟨a',n',c'⟩) D,.int .i64 j,thV (b_j t) ta tn tc qa tm qc] V2 (b_D Q1 Y V2):=by
    have h:=c_U Q1 (L.setMem ⟨a,n,c⟩ ⟨a',n',c'⟩) X2 j (b_j t) ta tc qa qc V2 HR3.out (by rw [show (b_j t).fs.length=tn from HTN.out.1,show (b_j t).lf.length=tm from HTN.out.2];exact d_c (a_v hkV2 HTT.out)) (fun b hb=>HQ2.out.2.2 b (by have:=HZV2.out;have:=HSZ.out;omega)) HN.out;rw [show (b_j t).fs.length=tn from HTN.out.1,show (b_j t).lf.length=tm from HTN.out.2,show X2.D=D from HX2.out.1,HYF.out] at h;exact h
   have HYD:=hid (show Y.D=D by rw [←HYF.out];exact HX2.out.1);have HC:=hid h0;clear h0
   go_wp2_with (first | (refine wpList_load_mid rfl 33 _ rfl (w.heap.size) 0 rfl (woC (L.setMem ⟨a,n,c⟩ ⟨a',n',c'⟩) D) _ (a_f HXs.out) Tryz.underlying33 rfl (by kernel_rfl) ?_) | (refine wpList_load_mid rfl 46 _ rfl (w.heap.size+3) 0 rfl (thC (b_j t) ta tn tc qa tm qc) _ (a_f HTs.out) Tryz.underlying46 rfl (by kernel_rfl) ?_))
   refine HC.out.mono ?_;rintro e9 w9 ⟨L9,rfl,R9,hb9⟩;have HZ9:=hid (a_h hb9 HZs.out);have HB9:=hid (a_a HBs.out hb9);have HR9:=hid R9;clear hb9 R9 HC;rw [HYD.out]
   go_wp2_with (refine a_c rfl 33 _ _ rfl (w.heap.size+2) (woC L9 D).toArray rfl rfl _ HZ9.out rfl (by kernel_rfl) (b_p _ _) ?_;intro U HU)
   have HZ10:=N103;refine a_X ⟨w.heap.size+2,0,none⟩ rfl rfl rfl (a_E HZ10.out 33 Tryz.underlying33 rfl (by kernel_rfl)) ?_;have hkU:=N8;exact a_Z (L:=L9) (by rw [HYD.out]) (a_D HQ2.out.1 (a_z hkU HR9.out)) (by rw [HU.out];exact a_g (by omega) HB9.out)
  ·have hme:(me != 0)=true:=by simpa using me0
   have HYF:=hid (show b_k X j (b_w t me)=Y by rw [←HY.out,if_neg me0])
   have h0:Calls Tryz.prog 52 #[woV L D,.int .i64 j,.int .i64 me] w1 (b_D Q1 Y w1):=by
    have h:=c_Z Q1 L X j me w1 HRR.out hj (fun b hb=>HQ2.out.2.2 b (by have:=HSZ.out;omega)) HN.out;rw [HTW.out,HD.out,HYF.out] at h;exact h
   have HYD:=N136;have HC:=hid h0;clear h0
   go_wp2_with (first | (refine wpList_load_mid rfl 33 _ rfl (w.heap.size) 0 rfl (woC L D) _ (a_f HX.out) Tryz.underlying33 rfl (by kernel_rfl) ?_))
   refine HC.out.mono ?_;rintro e9 w9 ⟨L9,rfl,R9,hb9⟩;have HZ9:=hid (a_h hb9 HZ.out);have HB9:=hid (a_a HB.out hb9);exact J16
theorem f_5 {w:World} {g:Nat} {L:WoL} {D:Int} (X:a_p w g (woC L D)):w.rangeAt g 1 [.slice L.ws.a L.ws.n L.ws.c,.slice L.ts.a L.ts.n L.ts.c,.int .i64 D,.slice L.bs.a L.bs.n L.bs.c]:=fun j v hj=>(X (1+j) v (by match j,hj with | 0,hj=>exact hj | 1,hj=>exact hj | 2,hj=>exact hj | 3,hj=>exact hj)).1
def WoL.setTso (L:WoL) (p q r:Sp):WoL:={ L with ws:=p,ts:=q,bs:=r }
theorem i_l {Q:Nat→Prop} {w:World} {L:WoL} {X:Wo} (R:RWo Q w L X) {p q r:Sp} {ws ts:List Int} {bs:List (List (Int×Int))} (h1:SlP Q w p.a p.n ws) (h2:SlP Q w q.a q.n ts) (h3:BlP Q w r.a r.n bs):RWo Q w (L.setTso p q r) { X with ws:=ws,ts:=ts,bs:=bs }:=
 ⟨R.co,h1,h2,h3,R.th,R.ev,R.cco,R.cth,R.cev⟩
def u_C (h:Nat) (rb:Nat) (vb at_ cc:Int):b_v:=[isV 0 (.pointer (some ⟨h+1,2,none⟩)),isV 1 (.int .i64 rb),isV 2 (.pointer (some ⟨h+3,1,none⟩)),isV 3 (.pointer (some ⟨h+3,1+rb,none⟩)),isV 4 (.int .i64 vb),isV 5 (.pointer (some ⟨h+1,3,none⟩)),isV 6 (.int .i64 cc),isV 7 (.int .i64 at_),isV 8 (.int .i64 at_)]
def l_G (Q1:Nat→Prop) (h:Nat) (V:World) (L:WoL) (D:Int) (j ra:Nat) (at_ va se sD:Int) (SW ST:List Int) (SB:List (List (Int×Int))):b_v:=[isV 0 (.pointer (some ⟨h,1,none⟩)),isV 1 (.agg #[.slice L.ws.a L.ws.n L.ws.c,.slice L.ts.a L.ts.n L.ts.c,.int .i64 D,.slice L.bs.a L.bs.n L.bs.c]),isV 2 (.int .i64 j),isV 3 (.int .i64 at_),isV 4 (.pointer (some ⟨h+1,1,none⟩)),isV 5 (.int .i64 ra),isV 6 (.pointer (some ⟨h+3,1,none⟩)),isV 7 (.pointer (some ⟨h+3,1+ra,none⟩)),isV 8 (.int .i64 va),([9],fun vz w=>∃ a n c a' n' c' q l d,vz=[.tuple #[.agg #[.slice a n c,.slice a' n' c',.int .i64 sD,.slice q l d],.int .i64 se]]∧SlP Q1 w a n SW∧SlP Q1 w a' n' ST∧BlP Q1 w q l SB),([10,9],fun vz _=>∃ a n c a' n' c' q l d,vz=[.tuple #[.agg #[.slice a n c,.slice a' n' c',.int .i64 sD,.slice q l d],.int .i64 se],.tuple #[.agg #[.slice a n c,.slice a' n' c',.int .i64 sD,.slice q l d],.int .i64 se]]),([11,9],fun vz _=>∃ a n c a' n' c' q l d,vz=[.agg #[.slice a n c,.slice a' n' c',.int .i64 sD,.slice q l d],.tuple #[.agg #[.slice a n c,.slice a' n' c',.int .i64 sD,.slice q l d],.int .i64 se]]),isV 12 (.int .i64 se),([13],fun vz w=>∃ g,vz=[.pointer (some ⟨g,0,none⟩)]∧V.heap.size≤g∧∃ xs,a_p w g xs∧xs.length=4),([13,9],fun vz w=>∃ g a n c a' n' c' q l d,vz=[.pointer (some ⟨g,0,none⟩),.tuple #[.agg #[.slice a n c,.slice a' n' c',.int .i64 sD,.slice q l d],.int .i64 se]]∧V.heap.size≤g∧a_p w g [.slice a n c,.slice a' n' c',.int .i64 sD,.slice q l d]∧SlP (fun b=>Q1 b∧b≠g) w a n SW∧SlP (fun b=>Q1 b∧b≠g) w a' n' ST∧BlP (fun b=>Q1 b∧b≠g) w q l SB),isV 15 (.int .i64 se)]
theorem m_P (Q1:Nat→Prop) (h:Nat) (V:World) (L:WoL) (D:Int) (j ra:Nat) (at_ va se sD:Int) (SW ST:List Int) (SB:List (List (Int×Int))):c_q (l_G Q1  h  V  L  D  j ra  at_ va se sD  SW ST  SB ):=a_d<|a_d<|a_d<|a_d<|a_d<|a_d<|a_d<|a_d<|a_d<|a_w (fun _ _ _ hb h=>by obtain ⟨a,n,c,a',n',c',q,l,d,h1,h0x,h1x,h2x⟩:=h;exact ⟨a,n,c,a',n',c',q,l,d,h1,a_r (fun _ _ _ _ h=>a_t hb h) h0x,a_r (fun _ _ _ _ h=>a_t hb h) h1x,a_G (fun _ _ _ _ h=>a_t hb h) h2x⟩)<|a_w (fun _ _ _ _ h=>h)<|a_w (fun _ _ _ _ h=>h)<|a_d<|a_w (fun _ _ _ hb h=>by obtain ⟨g,h1,h2,xs,h3,h4⟩:=h;exact ⟨g,h1,h2,xs,a_h hb h3,h4⟩)<|a_w (fun _ _ _ hb h=>by obtain ⟨g,a,n,c,a',n',c',q,l,d,h1,h2,h3,h0x,h1x,h2x⟩:=h;exact ⟨g,a,n,c,a',n',c',q,l,d,h1,h2,a_h hb h3,a_r (fun _ _ _ _ h=>a_t hb h) h0x,a_r (fun _ _ _ _ h=>a_t hb h) h1x,a_G (fun _ _ _ _ h=>a_t hb h) h2x⟩)<|a_d<|b_B
theorem o_h (Q1:Nat→Prop) (h:Nat) (V:World) (L:WoL) (D:Int) (j ra:Nat) (at_ va se sD:Int) (SW ST:List Int) (SB:List (List (Int×Int))):∀ jz args wz wz',jz≠9→jz≠13→jz≠14→b_E (l_G Q1  h  V  L  D  j ra  at_ va se sD  SW ST  SB ) jz args wz→b_E (l_G Q1  h  V  L  D  j ra  at_ va se sD  SW ST  SB ) jz args wz':=by
 intro jz args wz wz' n0 n1 n2 h
 match jz with
 | 0=>exact h
 | 1=>exact h
 | 2=>exact h
 | 3=>exact h
 | 4=>exact h
 | 5=>exact h
 | 6=>exact h
 | 7=>exact h
 | 8=>exact h
 | 9=>exact absurd rfl n0
 | 10=>exact h
 | 11=>exact h
 | 12=>exact h
 | 13=>exact absurd rfl n1
 | 14=>exact absurd rfl n2
 | 15=>exact h
 | _+16=>exact trivial
theorem g_1 (Q:Nat→Prop) (L:WoL) (X:Wo) (j:Nat) (i:Ins) (w:World) (R:RWo Q w L X) (hj:j < L.th.n) (hQ:∀ b,w.heap.size≤b→Q b) (hn:L.th.n≤1000) (hh:j_D X.ws X.ts X.D X.bs j=true) (ha:0≤i.2.1∧i.2.1≤7) (hb:0≤i.2.2.1∧i.2.2.1≤7) (ho:i.1=16∨i.1=17) (hpc:0≤(thW X j).pc∧(thW X j).pc≤1000) :
  Calls Tryz.prog 56 #[woV L X.D,.int .i64 j,inV i] w (b_D Q (p_1 X j (thW X j) i) w):=by
 obtain ⟨Y,hY⟩:=mn (p_1 X j (thW X j) i);rw [hY];obtain ⟨D,hD⟩:=mn (X.D);rw [hD];obtain ⟨tb,tq,t,ta,tc,qa,qc,htl,htt,-,T,hr⟩:=c_3 R.th hj;have htw:=N54;rw [htw] at hY;have HTW:=hid htw;rw [htw] at hpc;obtain ⟨op,A,B,cc⟩:=i;unfold p_1 at hY;simp only at hY ha hb ho;obtain ⟨ra,hra,hra8⟩:=a_5 ha;obtain ⟨rb,hrb,hrb8⟩:=a_5 hb;subst hra hrb;have ⟨HP,HH⟩:=hh2 hpc hh;obtain ⟨va,hva⟩:=mn (t.r ra);obtain ⟨vb,hvb⟩:=mn (t.r rb);obtain ⟨at_,hat⟩:=mn (wrap64 (vb+cc));have HAT:=hid hat;have HVA:=hid (And.intro hva hvb);have HA8:=hid (show (0:Int)≤ra∧(ra:Int)≤7 by omega);have i3:(0:Int)≤ra:=by omega
 have i4:(ra:Int) < 8:=by omega
 have i5:(0:Int)≤rb:=by omega
 have i6:(rb:Int) < 8:=by omega
 have HO:=hid ho;clear hh hpc ha hb ho hva hvb hat;obtain ⟨tn,htn⟩:=mn (t.fs.length);obtain ⟨tm,htm⟩:=mn (t.lf.length);have HTN:=hid (And.intro htn htm);obtain ⟨Q1,hQ1⟩:∃ Q1:Nat→Prop,Q1=fun b=>Q b∧(b < w.heap.size∨w.heap.size+4≤b):=⟨_,rfl⟩
 have HQ1:=hid hQ1;have HQ2:=N57;have HR1:=N41;have HT1:=N36;obtain ⟨W,hW⟩:=nm (((w.alloc (Obj.cells (woC L D).toArray 33)).alloc (Obj.cells (inL op ra rb cc).toArray 66)).alloc (Obj.cells woZ.toArray 33));have HX:=N71;have HI:=hid (show a_p W (w.heap.size+1) (inL op ra rb cc) by rw [hW];exact a_s _ (a_e _ _ (by simp)));have HZ:=N84;have HB:=N3;have HSZ:=N124;have HRA:=N28;have ⟨HW,HY,HTL,HD,HN⟩:=hh5 hW hY htl hD hn;rw [htn,htm] at HT1;have i1:(0:Int)≤j:=by omega
 have i2:(j:Int) < L.th.n:=by omega
 clear htl hY hD htt T hr htn htm hQ1 R hW htw hQ hn;unfold woV
 go_enter Tryz.func56,Tryz.ntmps56
 go_upto_region 1 with fail
 rw [←HW.out];obtain ⟨k5,-⟩:=HX.out 5 _ rfl;rw [HTL.out] at k5
 go_upto_region 2 with (first | (refine wpList_load_mid rfl 46 _ rfl tb (tq+j*13) rfl (thC t ta tn tc qa tm qc) _ HRA.out Tryz.underlying46 rfl (by kernel_rfl) ?_) | (refine a_c rfl 46 _ _ rfl W.heap.size (thC t ta tn tc qa tm qc).toArray rfl rfl _ (a_e thN W.heap.size rfl) rfl (by kernel_rfl) (a_L _ _ _ _ _ _ _) ?_;intro V HV))
 rw [HSZ.out];simp only [Act.put];have HX2:=N31;have HI2:=hid (show a_p V (w.heap.size+1) (inL op ra rb cc) by rw [HV.out];exact a_j (by have:=HSZ.out;omega) (a_s _ HI.out));have HZ2:=N114;have HT2:=N92;have HB2:=N27;have HS2:=N157;clear HV HX HZ HB HSZ HRA HW k5 i1 i2 HI;obtain ⟨x1,-⟩:=HX2.out 1 _ rfl;obtain ⟨x2,-⟩:=HX2.out 2 _ rfl;obtain ⟨x3,-⟩:=HX2.out 3 _ rfl;obtain ⟨x4,-⟩:=HX2.out 4 _ rfl;obtain ⟨y0,-⟩:=HI2.out 0 _ rfl;obtain ⟨y1,-⟩:=HI2.out 1 _ rfl;obtain ⟨y2,-⟩:=HI2.out 2 _ rfl;obtain ⟨y3,-⟩:=HI2.out 3 _ rfl;obtain ⟨za,-⟩:=HT2.out (1+ra) _ (c_J t.r ra hra8 _ _);obtain ⟨zb,-⟩:=HT2.out (1+rb) _ (c_J t.r rb hrb8 _ _);rw [HVA.out.1] at za;rw [HVA.out.2] at zb;have HRV:=N109;have HT3:=N65;refine d_K [some 18,some 19,some 20,some 21,some 22,some 23,some 24,some 25,some 8] (fun w'=>Below V.heap.size V w') (u_C w.heap.size rb vb at_ cc) 100 100 (fun _ _ _=>True) (by kernel_rfl) (by kernel_rfl) (by decide) rfl ((Below.refl _ _).drew) ?_ ?_
 ·show StepsL _ _ _ _ _ _ _
  refine InvD.c (fun _ _ w1 C _ hK=>oR C hK (h:=by simp [execOp,go_sem,C.o 5 (.pointer (some ⟨w.heap.size+1,0,none⟩))])) ?_;refine InvD.c (fun _ _ w1 C _ hK=>oR C hK (h:=by simp [execOp,go_sem,C.i 0,a_t C.base y2])) ?_;refine InvD.c (fun _ _ w1 C _ hK=>oR C hK (h:=by simp [execOp,go_sem,C.o 7 (.pointer (some ⟨w.heap.size+3,0,none⟩))])) ?_;refine InvD.c (fun _ _ w1 C _ hK=>oR C hK (h:=by simp [execOp,go_sem,C.i 1,C.i 2,i5,i6])) ?_;refine InvD.c (fun _ _ w1 C _ hK=>oR C hK (h:=by simp [execOp,go_sem,C.i 3,a_t C.base zb])) ?_;refine InvD.c (fun _ _ w1 C _ hK=>oR C hK (h:=by simp [execOp,go_sem,C.o 5 (.pointer (some ⟨w.heap.size+1,0,none⟩))])) ?_;refine InvD.c (fun _ _ w1 C _ hK=>oR C hK (h:=by simp [execOp,go_sem,C.i 5,a_t C.base y3])) ?_;refine InvD.c (fun _ _ w1 C _ hK=>oR C hK (h:=by simp [execOp,go_sem,C.i 4,C.i 6,HAT.out,IntWalk.i64_left])) ?_;refine InvD.c (fun _ _ w1 C _ hK=>oR C hK (h:=by simp [execOp,go_sem,C.i 7])) ?_;exact StepsL.nil
 ·intro vals w1 hb hv hbo;have y8:vals 8=.int .i64 at_:=List.head_eq_of_cons_eq (hv 8 (by decide));simp only [c_N,Act.put,sA,sB,sC,y8];have HXA:=hid (a_h hb HX2.out);have HIA:=hid (a_h hb HI2.out);have HZA:=hid (a_h hb HZ2.out);have HTA:=hid (a_h hb HT2.out);have HBA:=hid (a_a HB2.out hb);have HRA:=hid (show RWo Q1 w1 L X from b_q hb HRV.out);have HHA:=hid (a_v (a_C hb) HT3.out);have HSA:=N229;clear hb hbo hv y8 HX2 HI2 HZ2 HT2 HB2 HT3 HRV x1 x2 x3 x4 y0 y1 y2 y3 za zb i5 i6;obtain ⟨q0,-⟩:=HIA.out 0 _ rfl;obtain ⟨q1,-⟩:=HIA.out 1 _ rfl
  by_cases h16:op=16
  ·subst h16
   have HYL:=hid (show (if c_8 X.ws X.ts D X.bs j at_=0 then b_k X j (c_2 t ra (f_m X.ws X.ts D X.bs j at_)) else b_k X j (b_w t (c_8 X.ws X.ts D X.bs j at_)))=Y by
    rw [←HY.out,if_pos rfl,←HAT.out,←HVA.out.2,←HD.out];rfl)
   have h0:=j_U L.ws.a L.ts.a L.bs.a L.ws.n L.ws.c L.ts.n L.ts.c L.bs.n L.bs.c X.ws X.ts D X.bs j at_ w1 HRA.out.ws.sl HRA.out.ts.sl HRA.out.bs.bl (by rw [←HD.out];exact HH.out);obtain ⟨le,hle⟩:=mn (c_8 X.ws X.ts D X.bs j at_);obtain ⟨lv,hlv⟩:=mn (f_m X.ws X.ts D X.bs j at_);rw [hle,hlv] at h0 HYL;have HC:=hid h0;clear h0 hle hlv
   go_wp2_with (first | (refine wpList_load_mid rfl 30 _ rfl w.heap.size 1 rfl [.slice L.ws.a L.ws.n L.ws.c,.slice L.ts.a L.ts.n L.ts.c,.int .i64 D,.slice L.bs.a L.bs.n L.bs.c] _ (f_5 HXA.out) Tryz.underlying30 rfl (by kernel_rfl) ?_))
   refine HC.out.mono ?_;clear HC;rintro e2 w2 ⟨rfl,hb2⟩;have HXB:=hid (a_h hb2 HXA.out);have HIB:=hid (a_h hb2 HIA.out);have HZB:=hid (a_h hb2 HZA.out);have HTB:=hid (a_h hb2 HTA.out);have HBB:=hid (a_a HBA.out hb2);have HRB:=hid (show RWo Q1 w2 L X from b_q hb2 HRA.out);have HHB:=hid (a_v (a_C hb2) HHA.out);have HSB:=hid (show w.heap.size+4≤w2.heap.size by have:=(hb2).size;have:=HSA.out;omega);clear hb2 HXA HIA HZA HTA HBA HRA HHA q0 q1;obtain ⟨q0,-⟩:=HIB.out 0 _ rfl;obtain ⟨q1,-⟩:=HIB.out 1 _ rfl
   by_cases le0:le=0
   ·subst le0;have HYF:=hid (show b_k X j (c_2 t ra lv)=Y by rw [←HYL.out,if_pos rfl]);have h0:=b_R t.r ra lv w2 HA8.out;have HC:=hid h0;clear h0
    go_wp2_with (refine wpList_load_mid rfl 43 _ rfl (w.heap.size+3) 1 rfl (rgC t.r) _ (c_k HTB.out) Tryz.underlying43 rfl (by kernel_rfl) ?_)
    refine HC.out.mono ?_;clear HC;rintro e7 w7 ⟨rfl,hb7⟩;obtain ⟨s,hs⟩:=mn (b_Y t.r ra lv);rw [hs];have HSS:=hid hs;clear hs;have HX7:=hid (a_h hb7 HXB.out);have HI7:=hid (a_h hb7 HIB.out);have HZ7:=hid (a_h hb7 HZB.out);have HT7:=hid (a_h hb7 HTB.out);have HB7:=hid (a_a HBB.out hb7);have HR7:=hid (show RWo Q1 w7 L X from b_q hb7 HRB.out);have HH7:=hid (a_v (a_C hb7) HHB.out);have HS7:=hid (show w.heap.size+4≤w7.heap.size by have:=(hb7).size;have:=HSB.out;omega);clear hb7 HXB HIB HZB HTB
    go_upto_region 12 with (refine a_J rfl 43 _ _ rfl (w.heap.size+3) 1 (rgC s).toArray rfl rfl _ HT7.out (by simp) (by kernel_rfl) (b_H _ _ _ _ _ _ _ _) ?_;intro U8 HU8)
    simp only [Act.put];have HT8:=hid (show a_p U8 (w.heap.size+3) (thC ⟨t.pc,s,t.fs,t.st,t.ft,t.lf⟩ ta tn tc qa tm qc) by rw [HU8.out];exact b_c (xs:=(rgC s)) 1 HT7.out (by simp));have HX8:=hid (show a_p U8 w.heap.size (woC L D) by rw [HU8.out];exact a_j (by omega) HX7.out);have HZ8:=N211;have HB8:=N223;have hk8:=N192;have HR8:=hid (show RWo Q1 U8 L X from a_z hk8 HR7.out);have HH8:=hid (a_v hk8 HH7.out);have HS8:=N246;clear hk8 HU8 HX7 HZ7 HT7 HB7 HR7 HH7;have hp1:0≤t.pc:=HP.out.1;have hp2:t.pc≤1000:=HP.out.2;obtain ⟨z0,f0⟩:=HT8.out 0 _ rfl;obtain ⟨V2,hV2⟩:=nm ((U8.setCell ⟨(w.heap.size+3),0,none⟩ (.int .i64 (t.pc+1))));have HX8s:=hid (show a_p V2 (w.heap.size) _ by rw [hV2];exact (a_l (g':=(w.heap.size+3)) (o:=0) HX8.out (by omega) (.int .i64 (t.pc+1))));have HZ8s:=hid (show a_p V2 (w.heap.size+2) _ by rw [hV2];exact (a_l (g':=(w.heap.size+3)) (o:=0) HZ8.out (by omega) (.int .i64 (t.pc+1))));have HT8s:=hid (show a_p V2 ((w.heap.size+3)) (thC (c_2 t ra lv) ta tn tc qa tm qc) by have h:=(a_y HT8.out 0 (by simp) (.int .i64 (t.pc+1)));rw [hV2,c_2,HSS.out];exact h);have hkV2:Kept Q1 U8 V2:=by rw [hV2];exact (a_U _ _ _ (fun b hb=>by show b≠(w.heap.size+3);have:=HQ2.out.2.1 b hb;omega))
    have HB8s:=hid (show Below w.heap.size w V2 by rw [hV2];exact (HB8.out.setCell (p:=⟨(w.heap.size+3),0,none⟩) (by show _≤(w.heap.size+3);omega) _));have HZV2:=hid (show V2.heap.size=U8.heap.size by rw [hV2];simp);have HV2:=hid hV2;clear hV2
    go_upto_region 13 with fail
    rw [←HV2.out];clear z0 f0 hp1 hp2
    have h0:Calls Tryz.prog 53 #[woV L D,.int .i64 j,thV (c_2 t ra lv) ta tn tc qa tm qc] V2 (b_D Q1 Y V2):=by
     have h:=c_U Q1 L X j (c_2 t ra lv) ta tc qa qc V2 (a_z hkV2 HR8.out) (by rw [show (c_2 t ra lv).fs.length=tn from HTN.out.1,show (c_2 t ra lv).lf.length=tm from HTN.out.2];exact d_c (a_v hkV2 HH8.out)) (fun b hb=>HQ2.out.2.2 b (by have:=HZV2.out;have:=HS8.out;omega)) HN.out;rw [show (c_2 t ra lv).fs.length=tn from HTN.out.1,show (c_2 t ra lv).lf.length=tm from HTN.out.2,show (X).D=D from HD.out,HYF.out] at h;exact h
    have HYD:=N94;have HC:=hid h0;clear h0
    go_wp2_with (first | (refine wpList_load_mid rfl 33 _ rfl (w.heap.size) 0 rfl (woC L D) _ (a_f HX8s.out) Tryz.underlying33 rfl (by kernel_rfl) ?_) | (refine wpList_load_mid rfl 46 _ rfl (w.heap.size+3) 0 rfl (thC (c_2 t ra lv) ta tn tc qa tm qc) _ (a_f HT8s.out) Tryz.underlying46 rfl (by kernel_rfl) ?_))
    refine HC.out.mono ?_;rintro e9 w9 ⟨L9,rfl,R9,hb9⟩;have HZ9:=hid (a_h hb9 HZ8s.out);have HB9:=hid (a_a HB8s.out hb9);have HR9:=hid R9;clear hb9 R9 HC;rw [HYD.out]
    go_wp2_with (refine a_c rfl 33 _ _ rfl (w.heap.size+2) (woC L9 D).toArray rfl rfl _ HZ9.out rfl (by kernel_rfl) (b_p _ _) ?_;intro U HU)
    have HZ10:=N103;refine a_X ⟨w.heap.size+2,0,none⟩ rfl rfl rfl (a_E HZ10.out 33 Tryz.underlying33 rfl (by kernel_rfl)) ?_;have hkU:=N8;exact a_Z (L:=L9) (by rw [HYD.out]) (a_D HQ2.out.1 (a_z hkU HR9.out)) (by rw [HU.out];exact a_g (by omega) HB9.out)
   ·have hle:(le != 0)=true:=by simpa using le0
    have HYF:=hid (show b_k X j (b_w t le)=Y by rw [←HYL.out,if_neg le0])
    have h0:Calls Tryz.prog 52 #[woV L D,.int .i64 j,.int .i64 le] w2 (b_D Q1 Y w2):=by
     have h:=c_Z Q1 L X j le w2 HRB.out hj (fun b hb=>HQ2.out.2.2 b (by have:=HSB.out;omega)) HN.out;rw [HTW.out,HD.out,HYF.out] at h;exact h
    have HYD:=N136;have HC:=hid h0;clear h0
    go_wp2_with (first | (refine wpList_load_mid rfl 33 _ rfl (w.heap.size) 0 rfl (woC L D) _ (a_f HXB.out) Tryz.underlying33 rfl (by kernel_rfl) ?_))
    refine HC.out.mono ?_;rintro e9 w9 ⟨L9,rfl,R9,hb9⟩;have HZ9:=hid (a_h hb9 HZB.out);have HB9:=hid (a_a HBB.out hb9);exact J16
  ·have ho16:(op==16)=false:=by simpa using h16
   have HYL:=hid (show (if b_g X.ws X.ts D X.bs j at_=0 then { b_k X j (b_j t) with ws:=b_O X.ws D at_ va,bs:=b_J D X.bs j at_ va } else b_k X j (b_w t (b_g X.ws X.ts D X.bs j at_)))=Y by
    rw [←HY.out,if_neg h16,←HAT.out,←HVA.out.2,←HVA.out.1,←HD.out];rfl)
   obtain ⟨za,-⟩:=HTA.out (1+ra) _ (c_J t.r ra hra8 _ _);rw [HVA.out.1] at za;obtain ⟨V1,hV1⟩:=nm (w1);subst hV1;obtain ⟨se,hse⟩:=mn (b_g X.ws X.ts D X.bs j at_);rw [hse] at HYL;obtain ⟨sD,hsD⟩:=mn (okZ se D);obtain ⟨SW,hSW⟩:=mn (okL se (b_O X.ws D at_ va));obtain ⟨ST,hST⟩:=mn (okL se X.ts);obtain ⟨SB,hSB⟩:=mn (okL se (b_J D X.bs j at_ va));have HOK:=hid (show se=0→D=sD∧b_O X.ws D at_ va=SW∧X.ts=ST∧b_J D X.bs j at_ va=SB from fun h=>by subst h;exact ⟨hsD,hSW,hST,hSB⟩)
   have HMK:=hid (show ∀ u,Below V1.heap.size V1 u→Calls Tryz.prog 102 #[.agg #[.slice L.ws.a L.ws.n L.ws.c,.slice L.ts.a L.ts.n L.ts.c,.int .i64 D,.slice L.bs.a L.bs.n L.bs.c],.int .i64 j,.int .i64 at_,.int .i64 va] u (fun e w'=>∃ a n c a' n' c' q l d,e=.returned (.tuple #[.agg #[.slice a n c,.slice a' n' c',.int .i64 sD,.slice q l d],.int .i64 se])∧SlP (fun b=>Q1 b∧(b < V1.heap.size∨u.heap.size≤b)) w' a n SW∧SlP (fun b=>Q1 b∧(b < V1.heap.size∨u.heap.size≤b)) w' a' n' ST∧BlP (fun b=>Q1 b∧(b < V1.heap.size∨u.heap.size≤b)) w' q l SB∧Below u.heap.size u w') from fun u hu=>by
    have h:=h_P (fun b=>Q1 b∧(b < V1.heap.size∨u.heap.size≤b)) L.ws.a L.ts.a L.bs.a L.ws.n L.ws.c L.ts.n L.ts.c L.bs.n L.bs.c X.ws X.ts D X.bs j at_ va u (a_r (fun _ _ _ _ h=>a_t hu h) (a_n (fun b h=>⟨h.1,.inl h.2⟩) (c_j HRA.out.ws))) (a_r (fun _ _ _ _ h=>a_t hu h) (a_n (fun b h=>⟨h.1,.inl h.2⟩) (c_j HRA.out.ts))) (a_G (fun _ _ _ _ h=>a_t hu h) (a_H (fun b h=>⟨h.1,.inl h.2⟩) (f_x HRA.out.bs))) (fun b hb=>⟨HQ2.out.2.2 b (by have:=hu.size;have:=HSA.out;omega),.inr hb⟩) (by rw [←HD.out];exact HH.out);rw [hse,hsD,hSW,hST,hSB] at h;exact h)
   clear hse hsD hSW hST hSB;have hG:=m_P Q1 w.heap.size V1 L D j ra at_ va se sD SW ST SB
   go_upto_region 8 with fail
   refine d_K [some 51,some 52,some 53,some 54,some 55,some 56,some 57,some 58,some 59,some 60,some 50,some 61,some 62,some 11,none,some 12] (fun w'=>Below V1.heap.size V1 w') (l_G Q1 w.heap.size V1 L D j ra at_ va se sD SW ST SB) 9 13 (fun x y w=>∃ a n c a' n' c' q l d g,x=.tuple #[.agg #[.slice a n c,.slice a' n' c',.int .i64 sD,.slice q l d],.int .i64 se]∧y=.pointer (some ⟨g,0,none⟩)∧SlP (fun b=>Q1 b∧b≠g) w a n SW∧SlP (fun b=>Q1 b∧b≠g) w a' n' ST∧BlP (fun b=>Q1 b∧b≠g) w q l SB) (by kernel_rfl) (by kernel_rfl) (by decide) rfl ((Below.refl _ _).drew) ?_ ?_
   ·show StepsL _ _ _ _ _ _ _
    refine InvD.c (fun _ _ w1 C _ hK=>oR C hK (h:=by simp [execOp,go_sem,C.o 3 (.pointer (some ⟨w.heap.size,0,none⟩))])) ?_;refine InvD.c (fun a1 vals w1 C K hK=>?_) ?_
    ·have e0:=C.i 0;exact a_i rfl (wp_load_mid 30 _ rfl (w.heap.size) (1) ((a_P a1 _).symm.trans e0) [.slice L.ws.a L.ws.n L.ws.c,.slice L.ts.a L.ts.n L.ts.c,.int .i64 D,.slice L.bs.a L.bs.n L.bs.c] _ (f_5 (a_h C.base HXA.out)) Tryz.underlying30 rfl (by kernel_rfl) (d_e hK C rfl rfl))
    refine InvD.c (fun _ _ w1 C _ hK=>oR C hK (h:=by simp [execOp,go_sem,C.o 1 (.int .i64 j)])) ?_;refine InvD.c (fun _ _ w1 C _ hK=>oR C hK (h:=by simp [execOp,go_sem,C.o 8 (.int .i64 at_)])) ?_;refine InvD.c (fun _ _ w1 C _ hK=>oR C hK (h:=by simp [execOp,go_sem,C.o 5 (.pointer (some ⟨w.heap.size+1,0,none⟩))])) ?_;refine InvD.c (fun _ _ w1 C _ hK=>oR C hK (h:=by simp [execOp,go_sem,C.i 4,a_t C.base q1])) ?_;refine InvD.c (fun _ _ w1 C _ hK=>oR C hK (h:=by simp [execOp,go_sem,C.o 7 (.pointer (some ⟨w.heap.size+3,0,none⟩))])) ?_;refine InvD.c (fun _ _ w1 C _ hK=>oR C hK (h:=by simp [execOp,go_sem,C.i 5,C.i 6,i3,i4])) ?_;refine InvD.c (fun _ _ w1 C _ hK=>oR C hK (h:=by simp [execOp,go_sem,C.i 7,a_t C.base za])) ?_;refine InvD.c (fun a1 vals w1 C K hK=>?_) ?_
    ·have e0:=C.i 1;have e1:=C.i 2;have e2:=C.i 3;have e3:=C.i 8;rw [a_P] at e0 e1 e2 e3;refine a_i rfl (a_Q _ _ _ rfl 102 rfl [.agg #[.slice L.ws.a L.ws.n L.ws.c,.slice L.ts.a L.ts.n L.ts.c,.int .i64 D,.slice L.bs.a L.bs.n L.bs.c],.int .i64 j,.int .i64 at_,.int .i64 va] (by simp only [List.map_cons,List.map_nil,e0,e1,e2,e3]) (by kernel_rfl) ((HMK.out w1 C.base).mono ?_));exact J25
    refine InvD.c (fun a1 vals w1 C K hK=>?_) ?_
    ·have e0:=C.t 9 60 rfl rfl;obtain ⟨a,n,c,a',n',c',q,l,d,h1,-⟩:=C.says 9 rfl;refine a_i rfl (a_A (v:=vals 9) ?_ (d_e hK C rfl ⟨a,n,c,a',n',c',q,l,d,by show [vals 9,vals 9]=_;rw [List.head_eq_of_cons_eq h1]⟩));simp [execOp,go_sem,e0]
    refine InvD.c (fun a1 vals w1 C K hK=>?_) ?_
    ·have e0:=C.t 10 50 rfl rfl;obtain ⟨a,n,c,a',n',c',q,l,d,h1⟩:=C.says 10 rfl;have h2:=N133;have h3:=N61;rw [h2] at e0;refine a_i rfl (a_A (v:=.agg #[.slice a n c,.slice a' n' c',.int .i64 sD,.slice q l d]) ?_ (d_e hK C rfl (⟨a,n,c,a',n',c',q,l,d,by show [.agg #[.slice a n c,.slice a' n' c',.int .i64 sD,.slice q l d],vals 9]=_;rw [h3]⟩)));simp [execOp,go_sem,e0]
    refine InvD.c (fun a1 vals w1 C K hK=>?_) ?_
    ·have e0:=C.t 10 50 rfl rfl;obtain ⟨a,n,c,a',n',c',q,l,d,h1⟩:=C.says 10 rfl;have h2:=N133;have h3:=N61;exact J91
    refine InvD.c (fun a1 vals w1 C K hK=>?_) ?_
    ·exact J14
    refine InvD.c (fun a1 vals w1 C K hK=>?_) ?_
    ·have e0:=C.v 13 11 rfl rfl;have e1:=C.v 11 61 rfl rfl;obtain ⟨g,g1,g2,xs,hx,hx2⟩:=C.says 13 rfl;obtain ⟨a,n,c,a',n',c',q,l,d,h1⟩:=C.says 11 rfl;have y0:vals 13=.pointer (some ⟨g,0,none⟩):=List.head_eq_of_cons_eq g1;have y1:vals 11=.agg #[.slice a n c,.slice a' n' c',.int .i64 sD,.slice q l d]:=List.head_eq_of_cons_eq h1;have y2:=N61;obtain ⟨a2,n2,c2,a'2,n'2,c'2,q2,l2,d2,gg,z1,z2,p0x,p1x,p2x⟩:=C.two rfl rfl rfl rfl;rw [y2] at z1;rw [y0] at z2
     cases z1
     cases z2
     rw [y0] at e0;rw [y1] at e1;refine a_i rfl (a_7 30 _ _ rfl g #[.slice a n c,.slice a' n' c',.int .i64 sD,.slice q l d] e0 e1 xs hx (by rw [hx2];rfl) (by kernel_rfl) (by simp [Value.oneCell']) ?_);intro U HU;have hUx:=N98;have hk:=N113;have q0x:=a_r (w':=U) hk p0x;have q1x:=a_r (w':=U) hk p1x;have q2x:=a_G (w':=U) hk p2x;refine hK _ U ⟨g,a,n,c,a',n',c',q,l,d,by show [vals 13,vals 9]=_;rw [y0,y2],g2,hUx,q0x,q1x,q2x⟩ (by rw [HU.out];exact a_g g2 C.base) (fun jz hj h=>?_) (fun _ _ _=>⟨a,n,c,a',n',c',q,l,d,g,y2,y0,q0x,q1x,q2x⟩) (fun e=>absurd e (by decide)) (fun e=>absurd e (by decide)) (fun e=>absurd e (by decide))
     by_cases j16:jz=9
     ·subst j16;exact ⟨a,n,c,a',n',c',q,l,d,by show [vals 9]=_;rw [y2],a_n (fun _ h=>h.1) q0x,a_n (fun _ h=>h.1) q1x,a_H (fun _ h=>h.1) q2x⟩
     ·by_cases j20:jz=13
      ·subst j20;exact ⟨g,by show [vals 13]=_;rw [y0],g2,_,hUx,rfl⟩
      ·exact o_h _ _ _ _ _ _ _ _ _ _ _ _ _ _ _ _ _ _ j16 j20 hj h
    refine InvD.c (fun _ _ w1 C _ hK=>oR C hK (h:=by simp [execOp,go_sem,C.i 12])) ?_;exact StepsL.nil
   ·intro vals w1 hb hv hbo;obtain ⟨g,a,n,c,a',n',c',q,l,d,e1,g2,hm,q5,q6,q7⟩:=hv 14 (by decide);have y20:vals 13=.pointer (some ⟨g,0,none⟩):=List.head_eq_of_cons_eq e1;have y22:vals 15=.int .i64 se:=List.head_eq_of_cons_eq (hv 15 (by decide));simp only [c_N,Act.put,sA,sB,sC,y20,y22];have HXE:=hid (a_h hb HXA.out);have HIE:=hid (a_h hb HIA.out);have HZE:=hid (a_h hb HZA.out);have HTE:=hid (a_h hb HTA.out);have HBE:=hid (a_a HBA.out hb);have HRE:=hid (show RWo Q1 w1 L X from b_q hb HRA.out);have HHE:=hid (a_v (a_C hb) HHA.out);have HSE:=hid (show w.heap.size+4≤w1.heap.size by have:=(hb).size;have:=HSA.out;omega);have HMV:=hid hm;have HQM:=hid (And.intro q5 (And.intro q6 q7));clear hb hbo hv e1 y20 y22 hm q5 q6 q7 g2 HXA HIA HZA HTA HBA HRA HHA HMK za q0 q1 hG
    by_cases se0:se=0
    ·subst se0;obtain ⟨hD2,hW2,hT2,hB2⟩:=HOK.out rfl;subst hD2 hW2 hT2 hB2;have HYF:=hid (show b_k { X with ws:=b_O X.ws D at_ va,bs:=b_J D X.bs j at_ va } j (b_j t)=Y by rw [←HYL.out,if_pos rfl];rfl);obtain ⟨X2,hX2⟩:∃ X2:Wo,X2={ X with ws:=b_O X.ws D at_ va,bs:=b_J D X.bs j at_ va }:=⟨_,rfl⟩;rw [←hX2] at HYF;have HX2:=N252;have hp1:0≤t.pc:=HP.out.1;have hp2:t.pc≤1000:=HP.out.2
     go_upto_region 12 with (first | (refine wpList_load_mid rfl 30 _ rfl g 0 rfl [.slice a n c,.slice a' n' c',.int .i64 D,.slice q l d] _ (a_f HMV.out) Tryz.underlying30 rfl (by kernel_rfl) ?_) | (refine a_J rfl 30 _ _ rfl w.heap.size 1 #[.slice a n c,.slice a' n' c',.int .i64 D,.slice q l d] rfl rfl _ HXE.out (by simp) (by kernel_rfl) (by simp [Value.oneCell']) ?_;intro U9 HU9))
     simp only [Act.put];have HX9:=N95;have HT9:=N166;have HZ9:=N212;have HB9:=N209;have hk9:=N193;have HS9:=N247;clear HU9 HMV;obtain ⟨z0,f0⟩:=HT9.out 0 _ rfl;obtain ⟨V2,hV2⟩:=nm ((U9.setCell ⟨(w.heap.size+3),0,none⟩ (.int .i64 (t.pc+1))));have HX9s:=N137;have HZ9s:=N135;have HT9s:=N126;have hkV2:=N145;have HB9s:=N130;have HZV2:=hid (show V2.heap.size=U9.heap.size by rw [hV2];simp);have HV2:=hid hV2;clear hV2
     go_upto_region 13 with fail
     rw [←HV2.out];clear z0 f0 hp1 hp2;have hkW:Kept Q1 w1 V2:=a_3 hk9 hkV2
     have HR3:=hid (show RWo Q1 V2 (L.setTso ⟨a,n,c⟩ ⟨a',n',c'⟩ ⟨q,l,d⟩) X2 by
      rw [hX2];exact i_l (a_z hkW HRE.out) (a_r hkW (a_n (fun _ h=>h.1) HQM.out.1)) (a_r hkW (a_n (fun _ h=>h.1) HQM.out.2.1)) (a_G hkW (a_H (fun _ h=>h.1) HQM.out.2.2)))
     clear hX2
     have h0:Calls Tryz.prog 53 #[woV (L.setTso ⟨a,n,c⟩ ⟨a',n',c'⟩ ⟨q,l,d⟩) D,.int .i64 j,thV (b_j t) ta tn tc qa tm qc] V2 (b_D Q1 Y V2):=by
      have h:=c_U Q1 (L.setTso ⟨a,n,c⟩ ⟨a',n',c'⟩ ⟨q,l,d⟩) X2 j (b_j t) ta tc qa qc V2 HR3.out (by rw [show (b_j t).fs.length=tn from HTN.out.1,show (b_j t).lf.length=tm from HTN.out.2];exact d_c (a_v hkW HHE.out)) (fun b hb=>HQ2.out.2.2 b (by have:=HZV2.out;have:=HS9.out;omega)) HN.out;rw [show (b_j t).fs.length=tn from HTN.out.1,show (b_j t).lf.length=tm from HTN.out.2,show (X2).D=D from HX2.out,HYF.out] at h;exact h
     have HYD:=hid (show Y.D=D by rw [←HYF.out];exact HX2.out);have HC:=hid h0;clear h0
     go_wp2_with (first | (refine wpList_load_mid rfl 33 _ rfl (w.heap.size) 0 rfl (woC (L.setTso ⟨a,n,c⟩ ⟨a',n',c'⟩ ⟨q,l,d⟩) D) _ (a_f HX9s.out) Tryz.underlying33 rfl (by kernel_rfl) ?_) | (refine wpList_load_mid rfl 46 _ rfl (w.heap.size+3) 0 rfl (thC (b_j t) ta tn tc qa tm qc) _ (a_f HT9s.out) Tryz.underlying46 rfl (by kernel_rfl) ?_))
     refine HC.out.mono ?_;rintro e9 w9 ⟨L9,rfl,R9,hb9⟩;have HZ9:=hid (a_h hb9 HZ9s.out);have HB9:=hid (a_a HB9s.out hb9);have HR9:=hid R9;clear hb9 R9 HC;rw [HYD.out]
     go_wp2_with (refine a_c rfl 33 _ _ rfl (w.heap.size+2) (woC L9 D).toArray rfl rfl _ HZ9.out rfl (by kernel_rfl) (b_p _ _) ?_;intro U HU)
     have HZ10:=N103;refine a_X ⟨w.heap.size+2,0,none⟩ rfl rfl rfl (a_E HZ10.out 33 Tryz.underlying33 rfl (by kernel_rfl)) ?_;have hkU:=N8;exact a_Z (L:=L9) (by rw [HYD.out]) (a_D HQ2.out.1 (a_z hkU HR9.out)) (by rw [HU.out];exact a_g (by omega) HB9.out)
    ·have hse:(se != 0)=true:=by simpa using se0
     have HYF:=hid (show b_k X j (b_w t se)=Y by rw [←HYL.out,if_neg se0])
     have h0:Calls Tryz.prog 52 #[woV L D,.int .i64 j,.int .i64 se] w1 (b_D Q1 Y w1):=by
      exact J104
     have HYD:=N136;have HC:=hid h0;clear h0
     go_wp2_with (first | (refine wpList_load_mid rfl 33 _ rfl (w.heap.size) 0 rfl (woC L D) _ (a_f HXE.out) Tryz.underlying33 rfl (by kernel_rfl) ?_))
     refine HC.out.mono ?_;rintro e9 w9 ⟨L9,rfl,R9,hb9⟩;have HZ9:=hid (a_h hb9 HZE.out);have HB9:=hid (a_a HBE.out hb9);exact J16
end Go.Proofs.YtogdpojnbgeknaaGreatDoor
