import Derived.Test.YtogdpojnbgeknaaGreatDoorT49
import Derived.Test.YtogdpojnbgeknaaGreatDoorT8
import Derived.Test.YtogdpojnbgeknaaGreatDoorT23
import Derived.Test.YtogdpojnbgeknaaGreatDoorT5
import Derived.Test.YtogdpojnbgeknaaGreatDoorT30
import Derived.Test.YtogdpojnbgeknaaGreatDoorT31
import Derived.Test.YtogdpojnbgeknaaGreatDoorT6
import Derived.Test.YtogdpojnbgeknaaGreatDoorT38
import Derived.StillTailTactics
import Derived.Deep.QuietTactic
import Derived.Test.YtogdpojnbgeknaaGreatDoorT39
import Derived.Test.YtogdpojnbgeknaaGreatDoorT48
import Derived.Test.YtogdpojnbgeknaaGreatDoorT0
import Derived.Test.YtogdpojnbgeknaaGreatDoorCards
import Derived.Test.YtogdpojnbgeknaaGreatDoorTie
import Derived.Test.YtogdpojnbgeknaaGreatDoorT10
import Derived.ProofKit
import Derived.Stop.LaidErr
import Derived.LaidMore
import Derived.Lay
import Derived.Lib.SmallJoins
import Derived.Deep.DeepHandedRow
import Derived.SevenTiedAt
import Derived.OpenShut
import Derived.Below
import Derived.Test.YtogdpojnbgeknaaGreatDoorT44
set_option maxRecDepth 100000
set_option maxHeartbeats 16000000
namespace Go.Proofs.YtogdpojnbgeknaaGreatDoor
open Go.ChangeShapes Go.WideShapes Go.ChangeAt Go.RowKit
open Gen
structure WArgs (w:World) (ca sa wa ta aa:Option Addr) (cn cc sn sc wn wk tn tc an ac:Nat) (code:List Ins) (starts ws ts:List Int) (acts:List (Int×Int)):Prop where
 C:Vs repIns Any w ca cn code
 S:Sl w sa sn starts
 W:Sl w wa wn ws
 T:Sl w ta tn ts
 A:Vs e_U Any w aa an acts
 hc:cn≤cc∧cc≤9223372036854775807
 hs:sn≤sc∧sc≤9223372036854775807
 hw:wn≤wk∧wk≤9223372036854775807
 ht:tn≤tc∧tc≤9223372036854775807
 ha:an≤ac∧ac≤9223372036854775807
 hwf:∀ i∈code,W64 i.2.1∧W64 i.2.2.1∧W64 i.2.2.2
 hww:∀ z∈ws,W64 z
 G:Glob w
theorem o_U {code:List Ins} {starts ws ts:List Int} {d:Int} {acts:List (Int×Int)} (hwf:∀ i∈code,W64 i.2.1∧W64 i.2.2.1∧W64 i.2.2.2) (hww:∀ z∈ws,W64 z):OkW (j_Z code starts ws ts d acts) 80:=by
 have h:=k_Q (l:=acts.take 80) (h_2 (starts:=starts) (d:=d) (ts:=ts) hwf hww);exact ⟨h.right,h.wf,Nat.le_trans h.ev (by rw [List.length_take];omega)⟩
end Go.Proofs.YtogdpojnbgeknaaGreatDoor
namespace Go.Proofs.YtogdpojnbgeknaaGreatDoor
open Go.ChangeShapes Go.WideShapes Go.ChangeAt Go.RowKit
open Gen
open Lib (hid)
def t_7 (nV:Nat) (LX:WoL) (X Y:Wo) (rn:Nat) (ma:Option Addr) (mn mc m8:Nat):b_p:=[isV 0 (woV LX X.D),isV 1 (.slice ma mn mc),isV 2 (.slice ma mn mc),isV 3 (.int .i64 mn),isV 4 (.int .i64 m8),isV 5 (.slice ma m8 mc),([6],fun vz w=>∃ L,vz=[.tuple #[woV L Y.D,.int .i64 rn]]∧RWo Any w L Y),([7,6],fun vz _=>∃ L,vz=[.tuple #[woV L Y.D,.int .i64 rn],.tuple #[woV L Y.D,.int .i64 rn]]),([8,6],fun vz _=>∃ L,vz=[woV L Y.D,.tuple #[woV L Y.D,.int .i64 rn]]),isV 9 (.int .i64 rn),([10],fun vz w=>∃ g,vz=[.pointer (some ⟨g,0,none⟩)]∧nV≤g∧∃ xs,a_p w g xs∧xs.length=7),([10,6],fun vz w=>∃ g L,vz=[.pointer (some ⟨g,0,none⟩),.tuple #[woV L Y.D,.int .i64 rn]]∧nV≤g∧a_p w g (woC L Y.D)∧RWo (fun b=>b≠g) w L Y),isV 12 (.int .i64 rn)]
theorem q_t (nV:Nat) (LX:WoL) (X Y:Wo) (rn:Nat) (ma:Option Addr) (mn mc m8:Nat):c_j (t_7 nV  LX  X Y  rn  ma  mn mc m8 ):=a_d<|a_d<|a_d<|a_d<|a_d<|a_d<|a_v (fun _ _ _ hb h=>by obtain ⟨L,h1,h2⟩:=h;exact ⟨L,h1,b_G hb h2⟩)<|a_v (fun _ _ _ _ h=>h)<|a_v (fun _ _ _ _ h=>h)<|a_d<|a_v (fun _ _ _ hb h=>by obtain ⟨g,h1,h2,xs,h3,h4⟩:=h;exact ⟨g,h1,h2,xs,a_i hb h3,h4⟩)<|a_v (fun _ _ _ hb h=>by obtain ⟨g,L,h1,h2,h3,h4⟩:=h;exact ⟨g,L,h1,h2,a_i hb h3,b_G hb h4⟩)<|a_d<|b_u
theorem s_o (nV:Nat) (LX:WoL) (X Y:Wo) (rn:Nat) (ma:Option Addr) (mn mc m8:Nat):∀ jz args wz wz',jz≠6→jz≠10→jz≠11→b_x (t_7 nV  LX  X Y  rn  ma  mn mc m8 ) jz args wz→b_x (t_7 nV  LX  X Y  rn  ma  mn mc m8 ) jz args wz':=by
 intro jz args wz wz' n0 n1 n2 h
 match jz with
 | 0=>exact h
 | 1=>exact h
 | 2=>exact h
 | 3=>exact h
 | 4=>exact h
 | 5=>exact h
 | 6=>exact absurd rfl n0
 | 7=>exact h
 | 8=>exact h
 | 9=>exact h
 | 10=>exact absurd rfl n1
 | 11=>exact absurd rfl n2
 | 12=>exact h
 | _+13=>exact trivial
theorem h_y (ca sa wa ta aa ma:Option Addr) (cn cc sn sc wn wk tn tc an ac mn mc:Nat) (code:List Ins) (starts ws ts:List Int) (d:Int) (acts more:List (Int×Int)) (w:World) (H:WArgs w ca sa wa ta aa cn cc sn sc wn wk tn tc an ac code starts ws ts acts) (HMO:Vs e_U Any w ma mn more) (hmo:mn≤mc∧mc≤9223372036854775807) :
  Calls Tryz.prog 6 #[.slice ca cn cc,.slice sa sn sc,.slice wa wn wk,.slice ta tn tc,.int .i64 d,.slice aa an ac,.slice ma mn mc] w fun e w'=>e=.returned (.bool true)∧Below w.heap.size w w':=by
 have HG:=hid H.G;have h0:=n_o ca sa wa ta aa cn cc sn sc wn wk tn tc an ac code starts ws ts d acts w H.C H.S H.W H.T H.A H.hc H.hs H.hw H.ht H.ha H.hwf H.hww;have hok:=o_U (starts:=starts) (ts:=ts) (d:=d) (acts:=acts) H.hwf H.hww;obtain ⟨X,hX⟩:∃ X,j_Z code starts ws ts d acts=X:=⟨_,rfl⟩;rw [hX] at h0 hok;have ⟨H0,HOK⟩:=hh2 h0 hok;obtain ⟨m8,hm8⟩:∃ m,min mn 80=m:=⟨_,rfl⟩;have HM8:=hid (show (if (80:Int) < (mn:Int) then (80:Int) else (mn:Int))=(m8:Int) by split <;> omega);have i8:m8≤mc:=by omega
 have H80:=hid (show m8≤mn∧m8≤80 by omega);have HMO':=hid HMO;clear hX h0 hok H hm8 HMO hmo;obtain ⟨Y,hY⟩:∃ Y,h_E X (more.take m8)=Y:=⟨_,rfl⟩;obtain ⟨rn,hrn⟩:∃ n,j_G X (more.take m8)=n:=⟨_,rfl⟩;have ⟨HY,HN⟩:=hh2 hY hrn;clear hY hrn
 go_enter Tryz.func6,Tryz.ntmps6
 go_wp2_with fail
 refine H0.out.mono ?_;rintro e w1 ⟨LX,rfl,R1,hb1⟩;have ⟨HB1,HR1⟩:=hh2 hb1 R1;clear hb1 R1
 go_upto_region 2 with (refine a_c rfl 33 _ _ rfl w1.heap.size (woC LX X.D).toArray rfl rfl _ (a_e woZ w1.heap.size rfl) rfl (by kernel_rfl) (b_o _ _) ?_;intro V HV)
 obtain ⟨gX,hgX⟩:∃ g,w1.heap.size=g:=⟨_,rfl⟩;have HXV:=hid (show a_p V gX (woC LX X.D) by rw [HV.out,←hgX];exact a_q (a_e woZ _ rfl) rfl);have HBV0:=hid (show Below w1.heap.size w1 V by rw [HV.out];exact a_h (Nat.le_refl _) ((Below.refl _ _).alloc (Nat.le_refl _) _));have HBV:=hid (a_b HB1.out HBV0.out);have HSV:=hid (show V.heap.size=gX+1 by rw [HV.out,a_R,←hgX];simp);have HRX:=hid (show RWo (fun b=>b < V.heap.size) V LX X from a_D (fun b h=>h.2) (c_e (c_J (b_G HBV0.out HR1.out))))
 have HRUN:=hid (fun (wx:World) (hb:Below V.heap.size V wx)=>show Calls Tryz.prog 28 #[woV LX X.D,.slice ma m8 mc] wx (i_i (fun b=>b < V.heap.size∨wx.heap.size≤b) Y rn wx) by
  rw [←HY.out,←HN.out];exact l_q (fun b=>b < V.heap.size∨wx.heap.size≤b) LX X (more.take m8) 80 ma m8 mc wx (a_D (fun b h=>.inl h) (b_G hb HRX.out)) (h_r (g_B (a_b HBV.out hb) HMO'.out) m8 H80.out.1) (fun b hb=>.inr hb) HOK.out (by have:=H80.out.2;omega))
 rw [hgX];clear HV HR1 hgX HB1 HBV0;have hG:=q_t V.heap.size LX X Y rn ma mn mc m8;refine d_k [some 33,some 34,some 35,some 36,some 37,some 38,some 39,some 32,some 40,some 41,some 16,none,some 17] (fun w'=>Below V.heap.size V w') (t_7 V.heap.size LX X Y rn ma mn mc m8) 6 10 (fun x y w=>∃ L g,x=.tuple #[woV L Y.D,.int .i64 rn]∧y=.pointer (some ⟨g,0,none⟩)∧RWo (fun b=>b≠g) w L Y) (by kernel_rfl) (by kernel_rfl) (by decide) rfl ((Below.refl _ _).drew) ?_ ?_
 ·show StepsL _ _ _ _ _ _ _
  refine InvD.c (fun a1 vals w1 C K hK=>?_) ?_
  ·have e0:=C.o 15 (.pointer (some ⟨gX,0,none⟩));exact a_g rfl (wp_load_mid 33 _ rfl gX 0 ((a_M a1 _).symm.trans e0) (woC LX X.D) _ (a_f (a_i C.base HXV.out)) Tryz.underlying33 rfl (by kernel_rfl) (c_Q hK C rfl rfl))
  refine InvD.c (fun _ _ w1 C _ hK=>oR C hK (h:=by simp [execOp,go_sem,C.o 6 (.slice ma mn mc)])) ?_;refine InvD.c (fun _ _ w1 C _ hK=>oR C hK (h:=by simp [execOp,go_sem,C.o 6 (.slice ma mn mc)])) ?_;refine InvD.c (fun a1 vals w1 C K hK=>?_) ?_
  ·have e0:=C.i 2;refine a_g rfl (a_x (v:=.int .i64 mn) ?_ (c_Q hK C rfl rfl));simp [go_sem,e0]
  refine InvD.c (fun a1 vals w1 C K hK=>?_) ?_
  ·have e0:=C.i 3;refine a_g rfl (a_x (v:=.int .i64 m8) ?_ (c_Q hK C rfl rfl));simp [go_sem,e0,HM8.out]
  refine InvD.c (fun _ _ w1 C _ hK=>oR C hK (h:=by simp [execOp,go_sem,C.i 1,C.i 4,i8])) ?_;refine InvD.c (fun a1 vals w1 C K hK=>?_) ?_
  ·have e0:=C.i 0;have e1:=C.i 5;rw [a_M] at e0 e1;refine a_g rfl (a_O _ _ _ rfl 28 rfl [woV LX X.D,.slice ma m8 mc] (by simp only [List.map_cons,List.map_nil,e0,e1]) (by kernel_rfl) ((HRUN.out w1 C.base).mono ?_));rintro e9 w2' ⟨L,rfl,hR,hb2⟩;refine ⟨_,rfl,hK _ w2' ⟨L,rfl,c_J hR⟩ (a_b C.base hb2) (fun j _ h=>hG j _ _ _ hb2 h) (fun h=>absurd rfl h) (fun _ _ hy=>?_) (fun e=>absurd e (by decide)) (fun _ e=>absurd e (by decide))⟩;obtain ⟨g,hg1,hg2,xs,hx,hx2⟩:=hy;have hlt:=a_P hx (by omega);exact ⟨L,g,rfl,List.head_eq_of_cons_eq hg1,a_D (fun b h=>by omega) hR⟩
  refine InvD.c (fun a1 vals w1 C K hK=>?_) ?_
  ·have e0:=C.t 6 39 rfl rfl;obtain ⟨L,h1,-⟩:=C.says 6 rfl;refine a_g rfl (a_x (v:=vals 6) ?_ (c_Q hK C rfl ⟨L,by show [vals 6,vals 6]=_;rw [List.head_eq_of_cons_eq h1]⟩));simp [execOp,go_sem,e0]
  refine InvD.c (fun a1 vals w1 C K hK=>?_) ?_
  ·have e0:=C.t 7 32 rfl rfl;obtain ⟨L,h1⟩:=C.says 7 rfl;have h2:=N216;have h3:=N110;rw [h2] at e0;refine a_g rfl (a_x (v:=woV L Y.D) ?_ (c_Q hK C rfl (⟨L,by show [woV L Y.D,vals 6]=_;rw [h3]⟩)));simp [execOp,go_sem,e0]
  refine InvD.c (fun a1 vals w1 C K hK=>?_) ?_
  ·have e0:=C.t 7 32 rfl rfl;obtain ⟨L,h1⟩:=C.says 7 rfl;have h2:=N216;have h3:=N110;rw [h2] at e0;refine a_g rfl (a_x (v:=.int .i64 rn) ?_ (c_Q hK C rfl (rfl)));simp [execOp,go_sem,e0]
  refine InvD.c (fun a1 vals w1 C K hK=>?_) ?_
  ·have hbs:=C.base.size;have hA:=N137;refine a_g rfl (a_x (v:=.pointer (some ⟨w1.heap.size,0,none⟩)) (w':=(w1.alloc (Obj.cells woZ.toArray 33))) ?_ (hK _ _ ⟨w1.heap.size,rfl,hbs,woZ,a_e woZ _ rfl,rfl⟩ (C.base.alloc hbs _) (fun j _ h=>hG j _ _ _ hA h) (fun _ h=>absurd rfl h) (fun e=>absurd e (by decide)) (fun _ _ hy=>?_) (fun e=>absurd e (by decide))))
   ·simp [execOp,go_sem]
   ·obtain ⟨L,h1,h2⟩:=hy;exact ⟨L,w1.heap.size,List.head_eq_of_cons_eq h1,rfl,b_G hA (a_D (fun b h=>by have:=h.2;omega) (c_e h2))⟩
  refine InvD.c (fun a1 vals w1 C K hK=>?_) ?_
  ·have e0:=C.v 10 16 rfl rfl;have e1:=C.v 8 40 rfl rfl;obtain ⟨g,g1,g2,xs,hx,hx2⟩:=C.says 10 rfl;obtain ⟨L,h1⟩:=C.says 8 rfl;have y0:vals 10=.pointer (some ⟨g,0,none⟩):=List.head_eq_of_cons_eq g1;have y1:vals 8=woV L Y.D:=List.head_eq_of_cons_eq h1;have y2:=N110;obtain ⟨L2,gg,z1,z2,z3⟩:=C.two rfl rfl rfl rfl;rw [y2] at z1;rw [y0] at z2;have z1:woV L Y.D=woV L2 Y.D:=by injection z1 with z1;exact List.head_eq_of_cons_eq (congrArg Array.toList z1)
   obtain rfl:=l_i z1;obtain rfl:g=gg:=by injection z2 with z2;injection z2 with z2;injection z2
   rw [y0] at e0;rw [y1] at e1;refine a_g rfl (a_0 33 _ _ rfl g (woC L Y.D).toArray e0 e1 xs hx (by rw [hx2];rfl) (by kernel_rfl) (b_o _ _) ?_);intro U HU;have hUx:a_p U g (woC L Y.D):=by rw [HU.out];exact a_q hx (by rw [hx2];rfl)
   have hR:=a_B (w':=U) (show Gen.Kept (fun b=>b≠g) w1 U by rw [HU.out];exact a_t (fun b hb=>hb)) z3;refine hK _ U ⟨g,L,by show [vals 10,vals 6]=_;rw [y0,y2],g2,hUx,hR⟩ (by rw [HU.out];exact a_h g2 C.base) (fun jz hj h=>?_) (fun _ _ _=>⟨L,g,y2,y0,hR⟩) (fun e=>absurd e (by decide)) (fun e=>absurd e (by decide)) (fun e=>absurd e (by decide))
   by_cases j6:jz=6
   ·subst j6;exact ⟨L,by show [vals 6]=_;rw [y2],c_J hR⟩
   ·by_cases j10:jz=10
    ·subst j10;exact ⟨g,by show [vals 10]=_;rw [y0],g2,_,hUx,rfl⟩
    ·exact s_o _ _ _ _ _ _ _ _ _ _ _ _ _ j6 j10 hj h
  refine InvD.c (fun _ _ w1 C _ hK=>oR C hK (h:=by simp [execOp,go_sem,C.i 9])) ?_;exact StepsL.nil
 ·intro vals w1 hb hv hbo;obtain ⟨gN,L2,q1,q2,hxN,hRN⟩:=hv 11 (by decide);have y10:vals 10=.pointer (some ⟨gN,0,none⟩):=List.head_eq_of_cons_eq q1;simp only [c_I,Act.put,sA,sB,sC,Nat.reduceAdd,y10];have ⟨HB2,HXN⟩:=hh2 hb hxN;have HRN:=hid (c_J hRN);have HGN:=hid q2;clear hb hv hbo q1 q2 hxN hRN y10 hG HRUN HM8 i8;have HBW2:=hid (a_b HBV.out HB2.out);have HC:=hid (m_m w1 (HG.out.B HBW2.out))
  go_wp2_with fail
  refine HC.out.mono ?_;clear HC;rintro e3 w3 ⟨rfl,hb3⟩;have HB3:=hid (a_b HB2.out hb3);have HBW3:=hid (a_b HBW2.out hb3);have HXN3:=hid (a_i hb3 HXN.out);have HRN3:=hid (b_G hb3 HRN.out);clear hb3 HBW2 HB2 HXN HRN;obtain ⟨n,hn⟩:∃ n,LX.th.n=n:=⟨_,rfl⟩;have HNX:=hid (show X.th.length=n by rw [←hn];exact HRX.out.th.1);have HNN:=hid hn;have HN8:=hid (show n≤8 by have:=(s_I HOK.out).2;have:=HNX.out;omega)
  have HOY:=hid (show OkW Y 160 by
   have h:=k_Q (l:=more.take m8) HOK.out;rw [HY.out] at h;exact ⟨h.right,h.wf,Nat.le_trans h.ev (by rw [List.length_take];have:=H80.out;omega)⟩)
  have HYL:=hid (show Y.th.length=n by
   have h:=q_6 (l:=more.take m8) (X:=X);rw [HY.out,HNX.out] at h;exact h)
  have HXZ:=hid (a_i HB3.out HXV.out);obtain ⟨x5,-⟩:=HXZ.out 5 _ rfl;rw [HNN.out] at x5
  obtain ⟨bX,oX,hbx⟩:∃ b o,LX.th.a=some ⟨b,o,none⟩:=by
   obtain ⟨b,o,t,fa,fc,la,lc,h,-⟩:=d_b HRX.out.th (k:=0) (by have:=(s_I HOK.out).1;have:=HNX.out;omega);exact ⟨b,o,h⟩
  rw [hbx] at x5;have HBX:=hid hbx;clear hn HXZ hbx
  go_upto_region 5 with fail
  go_wp2_with fail
  go_loopw [18,19,20,21,22,23,24,47] (fun _ _ _ _ _ _ _ i wr=>∃ k:Nat,k≤n∧i=.int .i64 k∧Hid (Below w3.heap.size w3 wr)) (fun _ _ _ _ _ _ _ i _=>n - (intOf i).toNat)
  case atStart=>exact ⟨0,by omega,rfl,Below.refl _ _⟩
  case round =>
   obtain ⟨k,hk,rfl,hb⟩:=hrel;have HBZ:=hid hb.out;obtain ⟨wo,hwo⟩:=nm (wr);subst hwo;clear hb
   by_cases hlt:k < n
   ·have HRXo:=hid (b_G (a_b HB3.out HBZ.out) HRX.out);obtain ⟨b,o,t,fa,fc,la,lc,hthx,htt,-,TQ,hr⟩:=d_b HRXo.out.th (k:=k) (by have:=HNN.out;omega);rw [HBX.out] at hthx
    cases hthx
    obtain ⟨fn,hfn⟩:∃ n,t.fs.length=n:=⟨_,rfl⟩;obtain ⟨ln,hln⟩:∃ n,t.lf.length=n:=⟨_,rfl⟩;rw [hfn,hln] at hr;have HTX:=hid (show thW X k=t by rw [thW,List.getD_eq_getElem?_getD,htt];rfl);have HRA:=hid (show wo.rangeAt bX (oX+k*13) (thC t fa fn fc la ln lc) from hr);have i3:(0:Int)≤k:=by omega
    have i4:(k:Int) < n:=by omega
    have hwk:wrap64 ((k:Int)+1)=k+1:=IntWalk.wrap64_in _ (by have:=HN8.out;omega);clear hfn hln TQ hr htt
    go_upto_region 8 with (first | (refine wpList_load_mid rfl 46 _ rfl bX (oX+k*13) rfl (thC t fa fn fc la ln lc) _ HRA.out Tryz.underlying46 rfl (by kernel_rfl) ?_) | (refine a_c rfl 46 _ _ rfl wo.heap.size (thC t fa fn fc la ln lc).toArray rfl rfl _ (a_e thN wo.heap.size rfl) rfl (by kernel_rfl) (a_K _ _ _ _ _ _ _) ?_;intro U HU))
    have HXT:=hid (show a_p U wo.heap.size (thC t fa fn fc la ln lc) by rw [HU.out];exact a_q (a_e thN _ rfl) rfl);have HBU:=hid (show Below wo.heap.size wo U by rw [HU.out];exact a_h (Nat.le_refl _) ((Below.refl _ _).alloc (Nat.le_refl _) _));have HBZU:=hid (a_b HBZ.out HBU.out);clear HU HRA;obtain ⟨x10,-⟩:=HXT.out 10 _ rfl
    by_cases hst:t.st=0
    ·rw [hst] at x10
     go_wp2_with fail
     go_roundw
     case rel=>exact ⟨k+1,hlt,by go_num,HBZU.out⟩
     case measure=>rw [hwk];exact i_z hlt
    ·have e0:decide (t.st=0)=false:=decide_eq_false hst;have e1:(t.st==0)=false:=by simpa using hst
     have hS:=p_r (l:=more.take m8) (X:=X) (t:=t) (i:=k) (by have:=HNX.out;omega) (by rw [HTX.out];exact n_b hst);rw [HY.out] at hS;have HRNo:=hid (b_G HBZ.out HRN3.out);obtain ⟨b2,o2,u,ga,gc,qa,qc,hthy,huu,-,UQ,hru⟩:=d_b HRNo.out.th (k:=k) (by have:=HYL.out;have:=HRNo.out.th.1;omega);obtain ⟨un,hun⟩:∃ n,u.fs.length=n:=⟨_,rfl⟩;obtain ⟨um,hum⟩:∃ n,u.lf.length=n:=⟨_,rfl⟩;rw [hun,hum] at hru;have htu:thW Y k=u:=by rw [thW,List.getD_eq_getElem?_getD,huu];rfl
     rw [htu] at hS;have HST:=hid hS.1;have HTU:=hid htu;have HRA:=hid (show U.rangeAt b2 (o2+k*13) (thC u ga un gc qa um qc) from fun x v hx=>a_u HBU.out (hru x v hx));have HNy:=hid (show L2.th.n=n by have:=HYL.out;have:=HRNo.out.th.1;omega);have HXNU:=hid (a_i HBZU.out HXN3.out);obtain ⟨z5,-⟩:=HXNU.out 5 _ rfl;rw [hthy,HNy.out] at z5;clear hS htu hun hum UQ hru huu hthy
     go_upto_region 10 with (first | (refine wpList_load_mid rfl 46 _ rfl b2 (o2+k*13) rfl (thC u ga un gc qa um qc) _ HRA.out Tryz.underlying46 rfl (by kernel_rfl) ?_) | (refine a_c rfl 46 _ _ rfl U.heap.size (thC u ga un gc qa um qc).toArray rfl rfl _ (a_e thN U.heap.size rfl) rfl (by kernel_rfl) (a_K _ _ _ _ _ _ _) ?_;intro U2 HU2))
     have HXU:=hid (show a_p U2 U.heap.size (thC u ga un gc qa um qc) by rw [HU2.out];exact a_q (a_e thN _ rfl) rfl);have HBU2:=hid (show Below U.heap.size U U2 by rw [HU2.out];exact a_h (Nat.le_refl _) ((Below.refl _ _).alloc (Nat.le_refl _) _));have HBZ2:=hid (a_b HBZU.out HBU2.out);have HBW4:=hid (a_b HBW3.out HBZ2.out);have HRY:=hid (b_G HBZ2.out HRN3.out);have HXN2:=hid (a_i HBZ2.out HXN3.out);have HXT2:=hid (a_i HBU2.out HXT.out);have hky:k < Y.th.length:=by have:=HYL.out;omega
     have hy0:(thW Y k).st≠0:=by rw [HTU.out];exact HST.out.st
     have h0:=k_5 L2 Y k U2 HRY.out (HG.out.B HBW4.out) (h_s HOY.out.wf);rw [if_pos (g_g HOY.out.right hky),g_g HOY.out.right hky,Int.toNat_natCast,k_e hy0] at h0;have HC:=hid h0;have HSE:=hid (n_c HOY.out.right hky hy0);clear HU2 HRA h0 hky hy0 z5 x10
     go_wp2_with (refine wpList_load_mid rfl 33 _ rfl gN 0 rfl (woC L2 Y.D) _ (a_f HXN2.out) Tryz.underlying33 rfl (by kernel_rfl) ?_)
     refine HC.out.mono ?_;clear HC;rintro e5 w5 ⟨rfl,hb5⟩;have HBZ5:=hid (a_b HBZ2.out hb5);have HBW5:=hid (a_b HBW4.out hb5);have HXN5:=hid (a_i hb5 HXN2.out);have HXT5:=hid (a_i hb5 HXT2.out);have HXU5:=hid (a_i hb5 HXU.out);have h0:=e_W L2 Y k w5 (b_G hb5 HRY.out) (HG.out.B HBW5.out) (by have h1:=HRY.out.ev.1;have h2:=HOY.out.ev;omega) (h_s HOY.out.wf);rw [HSE.out] at h0;obtain ⟨Y2,hY2⟩:∃ Y2,i_X Y k=Y2:=⟨_,rfl⟩;rw [hY2] at h0;have HC:=hid h0;clear h0 hb5 hY2
     go_wp2_with (refine wpList_load_mid rfl 33 _ rfl gN 0 rfl (woC L2 Y.D) _ (a_f HXN5.out) Tryz.underlying33 rfl (by kernel_rfl) ?_)
     refine HC.out.mono ?_;clear HC;rintro e6 w6 ⟨L3,rfl,-,hb6⟩
     go_upto_region 12 with (refine a_c rfl 33 _ _ rfl w6.heap.size (woC L3 Y2.D).toArray rfl rfl _ (a_e woZ w6.heap.size rfl) rfl (by kernel_rfl) (b_o _ _) ?_;intro U3 HU3)
     have hb7:Below w6.heap.size w6 U3:=by rw [HU3.out];exact a_h (Nat.le_refl _) ((Below.refl _ _).alloc (Nat.le_refl _) _)
     have HB7:=hid (a_b hb6 hb7);have HBZ7:=hid (a_b HBZ5.out HB7.out);have HXT7:=hid (a_i HB7.out HXT5.out);have HXU7:=hid (a_i HB7.out HXU5.out);clear HU3 hb6 hb7;obtain ⟨x0,-⟩:=HXT7.out 0 _ rfl;obtain ⟨x1,-⟩:=HXT7.out 1 _ rfl;obtain ⟨x2,-⟩:=HXT7.out 2 _ rfl;obtain ⟨x3,-⟩:=HXT7.out 3 _ rfl;obtain ⟨x4,-⟩:=HXT7.out 4 _ rfl;obtain ⟨x5,-⟩:=HXT7.out 5 _ rfl;obtain ⟨x6,-⟩:=HXT7.out 6 _ rfl;obtain ⟨x7,-⟩:=HXT7.out 7 _ rfl;obtain ⟨x8,-⟩:=HXT7.out 8 _ rfl;obtain ⟨x10,-⟩:=HXT7.out 10 _ rfl;obtain ⟨x11,-⟩:=HXT7.out 11 _ rfl;obtain ⟨y0,-⟩:=HXU7.out 0 _ rfl;obtain ⟨y1,-⟩:=HXU7.out 1 _ rfl;obtain ⟨y2,-⟩:=HXU7.out 2 _ rfl;obtain ⟨y3,-⟩:=HXU7.out 3 _ rfl;obtain ⟨y4,-⟩:=HXU7.out 4 _ rfl;obtain ⟨y5,-⟩:=HXU7.out 5 _ rfl;obtain ⟨y6,-⟩:=HXU7.out 6 _ rfl;obtain ⟨y7,-⟩:=HXU7.out 7 _ rfl;obtain ⟨y8,-⟩:=HXU7.out 8 _ rfl;obtain ⟨y10,-⟩:=HXU7.out 10 _ rfl;obtain ⟨y11,-⟩:=HXU7.out 11 _ rfl;rw [HST.out.pc] at y0;rw [HST.out.r] at y1 y2 y3 y4 y5 y6 y7 y8;have qr:=s_j t.r t.r U3;rw [show eqR t.r t.r=true by simp [eqR]] at qr
     by_cases h2:t.st=2
     ·rw [h2] at x10;rw [(HST.out.ft h2).1] at y10;rw [(HST.out.ft h2).2] at y11;clear e0 e1;exact J103
     ·have e2:decide (t.st=2)=false:=decide_eq_false h2;have e3:(t.st==2)=false:=by simpa using h2
      exact J103
   ·obtain rfl:n=k:=by omega
    go_wp2_with fail
    go_ret
    exact ⟨rfl,a_b HBW3.out HBZ.out⟩
end Go.Proofs.YtogdpojnbgeknaaGreatDoor
namespace Go.Proofs.YtogdpojnbgeknaaGreatDoor
open Go.ChangeShapes Go.WideShapes Go.ChangeAt Go.RowKit
open Gen
theorem Tryz.own:ownKnob Tryz.prog.godebug=none:=by kernel_rfl
theorem n_S:Tryz.prog.cellsOf 9=1:=by kernel_rfl
theorem l_C:Tryz.prog.cellsOf 149=2:=by kernel_rfl
theorem n_R:Tryz.prog.cellsOf 150=54:=by kernel_rfl
theorem gOpsT8:(Tryz.prog.globals[0]?).map (·.type)=some 150:=by kernel_rfl
def o_0 {H:Type} (k:Nat):DataW H:=.agg [.lit (.string (opName.getD k [])),.lit (.string (opSign.getD k []))]
theorem o_3 {H:Type}:(Rows.laid_respite_asm_operations:DataW H)=.agg ((List.range 27).map o_0):=rfl
theorem m_7 {H:Type} {enc:TypeId×Value→H} {W:World} {base:Nat} {sp:Nat→Bool} {held:Bool} {fuel:Nat} {cs:List Value} {a b:Bs} {p:List MemPlace}
  (h:DataW.trod enc Tryz.prog W base sp held fuel 149 cs=some (.agg [.lit (.string a),.lit (.string b)],p)):cs=[.string (str a),.string (str b)]:=by
 obtain ⟨xs,n,rfl,hx,hl,hn,hf⟩:=DataW.trod_struct Tryz.underlying149 h;have h0:DataW.trod enc Tryz.prog W base sp held n 9 ((cs.drop 0).take (Tryz.prog.cellsOf 9))=xs[0]?:=hf 0 _ rfl;have h1:DataW.trod enc Tryz.prog W base sp held n 9 ((cs.drop 1).take (Tryz.prog.cellsOf 9))=xs[1]?:=hf 1 _ rfl;rw [l_C] at hl
 match cs,hl with
 | [c0,c1],_ =>
 simp only [n_S,List.drop_zero,List.drop_succ_cons,List.take_succ_cons,List.take_zero] at h0 h1
 match xs,hn,hx,h0,h1 with
 | [x0,x1],_,hx,h0,h1 =>
 simp only [List.map_cons,List.map_nil,Prod.mk.injEq,DataW.agg.injEq,List.cons.injEq] at hx;obtain ⟨s0,e0,f0,-⟩:=DataW.trod_string Tryz.underlying9 h0;obtain ⟨s1,e1,f1,-⟩:=DataW.trod_string Tryz.underlying9 h1;subst f0 f1;obtain ⟨⟨g0,g1,-⟩,-⟩:=hx
 injection g0 with g0
 injection g0 with g0
 injection g1 with g1
 injection g1 with g1
 injection e0 with e0
 injection e1 with e1
 rw [e0,e1,g0,g1,show str s0.data.toList=s0 from rfl,show str s1.data.toList=s1 from rfl]
theorem m_Y {H:Type} {enc:TypeId×Value→H} {W:World} {base:Nat} {sp:Nat→Bool} {held:Bool} {fuel:Nat} {cs:List Value} {p:List MemPlace}
  (h:DataW.trod enc Tryz.prog W base sp held fuel 150 cs=some (Rows.laid_respite_asm_operations,p)):cs=opCells:=by
 rw [o_3] at h;obtain ⟨xs,n,rfl,hx,hl,hn,hf⟩:=DataW.trod_array Tryz.underlying150 h;rw [n_R] at hl;rw [l_C] at hf;simp only [Prod.mk.injEq,DataW.agg.injEq] at hx
 have hrow:∀ i,i < 27→(cs.drop (i*2)).take 2=[.string (str (opName.getD i [])),.string (str (opSign.getD i []))]:=by
  intro i hi;have h1:=hf i hi;have h2:(xs.map (·.1))[i]?=some (o_0 i):=by rw [←hx.1];simp [hi]
  rw [List.getElem?_map,Option.map_eq_some_iff] at h2;obtain ⟨⟨d,q⟩,h3,h4⟩:=h2;rw [h3] at h1;dsimp only at h4;subst h4;exact m_7 h1
 have hol:opCells.length=54:=by kernel_rfl
 have hor:∀ i,i < 27→(opCells.drop (i*2)).take 2=[.string (str (opName.getD i [])),.string (str (opSign.getD i []))]:=by
  intro k hk;exact J60
 apply List.ext_getElem?
 intro j
 by_cases hj:j < 54
 ·have h1:=hrow (j / 2) (by omega);rw [←hor (j / 2) (by omega)] at h1;have h2:=congrArg (·[j % 2]?) h1;simp only [List.getElem?_take,List.getElem?_drop] at h2;rw [if_pos (by omega),if_pos (by omega),show j / 2*2+j % 2=j by omega] at h2;exact h2
 ·rw [List.getElem?_eq_none (by omega),List.getElem?_eq_none (by omega)]
theorem h_F {w:World} (h:w.ShapedOpen Tryz.prog):0+1≤w.heap.size:=by
 obtain ⟨o,ho⟩:∃ o,((begin Tryz.prog (fun _ _=>0) default).world.heap[0]?).bind Obj.row?=some o:=Option.isSome_iff_exists.1 (by kernel_rfl);obtain ⟨cs,hh,-⟩:=h.1 0 o.1 o.2 (of_decide_eq_true (by kernel_rfl)) ho;have:=(Array.getElem?_eq_some_iff.1 hh).1
 omega
section
variable {H:Type} {enc:TypeId×Value→H} {w:World} {base:Nat} {spare:Nat→Bool} {held:Bool}
theorem m_X:p_U repIns (fun i=>W64 i.2.1∧W64 i.2.2.1∧W64 i.2.2.2) enc Tryz.prog w base spare held 66:=by
 intro fuel cs x h;obtain ⟨y0,y1,y2,y3,n,_,hl,t0,t1,t2,t3⟩:=Go.Joins.trod_struct4 Tryz.underlying66 h;rw [show Tryz.prog.cellsOf 66=4 by kernel_rfl] at hl;have k1:Tryz.prog.cellsOf 3=1:=by kernel_rfl
 match cs,hl with
 | [c0,c1,c2,c3],_ =>
  obtain ⟨z0,e0,_,_⟩:=DataW.trod_int Tryz.underlying3 t0;obtain ⟨z1,e1,_,w1⟩:=DataW.trod_int Tryz.underlying3 t1;obtain ⟨z2,e2,_,w2⟩:=DataW.trod_int Tryz.underlying3 t2;obtain ⟨z3,e3,_,w3⟩:=DataW.trod_int Tryz.underlying3 t3;rw [k1] at e0 e1 e2 e3;simp at e0 e1 e2 e3;subst e0 e1 e2 e3;exact ⟨(z0,z1,z2,z3),rfl,w1,w2,w3⟩
theorem m_W:p_U e_U (fun _=>True) enc Tryz.prog w base spare held 68:=by
 intro fuel cs x h;obtain ⟨y0,y1,n,_,hl,t0,t1⟩:=Go.ChangeShapes.trod_struct2 Tryz.underlying68 h;rw [show Tryz.prog.cellsOf 68=2 by kernel_rfl] at hl;have k1:Tryz.prog.cellsOf 3=1:=by kernel_rfl
 match cs,hl with
 | [c0,c1],_ =>
  obtain ⟨z0,e0,_,_⟩:=DataW.trod_int Tryz.underlying3 t0;obtain ⟨z1,e1,_,_⟩:=DataW.trod_int Tryz.underlying3 t1;rw [k1] at e0 e1;simp at e0 e1;subst e0 e1;exact ⟨(z0,z1),rfl,trivial⟩
theorem m_V {v:Value} {d:DataW H} {p:List MemPlace} (h:DataW.Trod enc Tryz.prog w base spare held 22 v d p) :
  ∃ (a:Option Addr) (n c:Nat) (zs:List Ins),v.cells.toList=[.slice a n c]∧t_6 repIns (fun i=>W64 i.2.1∧W64 i.2.2.1∧W64 i.2.2.2) w a n c zs:=by
 obtain ⟨fuel,hf⟩:=h;exact f_t (r:=repIns) Tryz.underlying22 (by kernel_rfl) m_X _ _ _ hf
theorem f_s {v:Value} {d:DataW H} {p:List MemPlace} (h:DataW.Trod enc Tryz.prog w base spare held 23 v d p) :
  ∃ (a:Option Addr) (n c:Nat) (zs:List Int),v.cells.toList=[.slice a n c]∧t_6 repInt (fun z=>(Lit.int .i64 z).wf=true) w a n c zs:=by
 obtain ⟨fuel,hf⟩:=h;exact f_t (r:=repInt) Tryz.underlying23 (by kernel_rfl) (o_2 Tryz.underlying3) _ _ _ hf
theorem h_a {v:Value} {d:DataW H} {p:List MemPlace} (h:DataW.Trod enc Tryz.prog w base spare held 50 v d p) :
  ∃ (a:Option Addr) (n c:Nat) (zs:List (Int×Int)),v.cells.toList=[.slice a n c]∧t_6 e_U (fun _=>True) w a n c zs:=by
 obtain ⟨fuel,hf⟩:=h;exact f_t (r:=e_U) Tryz.underlying50 (by kernel_rfl) m_W _ _ _ hf
end
end Go.Proofs.YtogdpojnbgeknaaGreatDoor
