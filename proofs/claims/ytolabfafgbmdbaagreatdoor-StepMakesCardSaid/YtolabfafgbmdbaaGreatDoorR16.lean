import Derived.Test.YtolabfafgbmdbaaGreatDoorR7
import Derived.Test.YtolabfafgbmdbaaGreatDoorR0
set_option maxRecDepth 100000
set_option maxHeartbeats 16000000
namespace Go.Proofs.YtolabfafgbmdbaaGreatDoor
open Go.ChangeShapes Go.WideShapes Go.ChangeAt Go.RowKit
open Gen
open Lib (hid)
theorem i_V (t:Thr) (self:Int) (i:In4) (fa la:Option Addr) (fn fc ln lc:Nat) (w:World) (ha:0≤i.2.1∧i.2.1≤7) (hb:0≤i.2.2.1∧i.2.2.1≤7) (hp:0≤t.pc∧t.pc≤1000) :
  Calls Tryz.prog 132 #[.agg (tkC t fa fn fc la ln lc self i).toArray] w (h_w (d_P t i.2.1 (rgt t i.2.2.1)) fa la fn fc ln lc 0 w):=by
 obtain ⟨z,hz⟩:=mn (d_P t i.2.1 (rgt t i.2.2.1));rw [hz];obtain ⟨cs,hcs⟩:∃ cs:List Value,cs=(tkC t fa fn fc la ln lc self i):=⟨_,rfl⟩;obtain ⟨zs,hzs⟩:∃ zs:List Value,zs=thC z fa fn fc la ln lc:=⟨_,rfl⟩;obtain ⟨W,hW,X,R,hB⟩:=N35;have HCA:=hid (c_s hcs);have HCN:=N16;have HCI:=N10;have HZA:=N12;have HZN:=N25;have HZI:=N6;have ⟨HCS,HZS,HX,HR,HB,HW,HZ,HP,Ha,Hb⟩:=hh10 hcs hzs X R hB hW hz hp ha hb;clear hW X R hB hz hp hcs hzs ha hb
 go_enter Tryz.func132,Tryz.ntmps132
 go_upto_region 1 with fail
 rw [←HW.out];refine d_q [some 4,some 5,some 6,some 7,some 8,some 9,none,some 3] (OpB w cs) (VL [.agg cs.toArray,.agg cs.toArray,.int .i64 (rgt t i.2.2.1),.tuple #[.agg zs.toArray,.int .i64 0],.agg zs.toArray,.int .i64 0,undef,.int .i64 0] 6 (fun w'=>a_p w' (w.heap.size+1) zs)) (by kernel_rfl) (by kernel_rfl) (by decide) rfl ⟨HB.out.drew,b_d HX.out,_,b_d HR.out,rfl⟩ ?_ ?_
 ·show StepsL _ _ _ _ _ _ _
  refine InvV.cons rfl rfl rfl rfl (fun a1 vals w1 C K hK=>?_) ?_
  ·exact J3
  refine InvV.cons rfl rfl rfl rfl (fun a1 vals w1 C K hK=>?_) ?_
  ·exact J3
  refine InvV.cons rfl rfl rfl rfl (fun a1 vals w1 C K hK=>?_) ?_
  ·exact J12
  refine InvV.cons rfl rfl rfl rfl (fun a1 vals w1 C K hK=>?_) ?_
  ·have e0:=N14;have e1:a1.eval (.tmp 6)=.int .i64 (rgt t i.2.2.1):=got C 2 6 rfl rfl rfl rfl;have h0:=a_U t self i (rgt t i.2.2.1) fa la fn fc ln lc w1 Ha.out HP.out;rw [HZ.out,←HCA.out] at h0;refine a_d rfl (a_x _ _ _ rfl 154 rfl [.agg cs.toArray,.int .i64 (rgt t i.2.2.1)] (by simp [e0,e1]) (by kernel_rfl) (h0.mono ?_));rintro e w2 ⟨he,hb2⟩;rw [←HZA.out] at he;subst he;exact J18
  refine InvV.cons rfl rfl rfl rfl (fun a1 vals w1 C K hK=>?_) ?_
  ·have e0:=N74;exact J30
  refine InvV.cons rfl rfl rfl rfl (fun a1 vals w1 C K hK=>?_) ?_
  ·have e0:=N74;exact J16
  refine InvV.cons rfl rfl rfl rfl (fun a1 vals w1 C K hK=>?_) ?_
  ·have e0:a1.eval (.tmp 8)=.agg zs.toArray:=got C 4 8 rfl rfl rfl rfl;exact J6
  refine InvV.cons rfl rfl rfl rfl (fun a1 vals w1 C K hK=>?_) ?_
  ·have e0:a1.tmps[9]?.getD undef=.int .i64 0:=c_R C 5 9 rfl rfl rfl rfl;exact J16
  exact StepsL.nil
 ·intro vals w1 hb hv;have e3:=g_j (hv 7 (by decide)) rfl;have HR1:=hid (show a_p w1 (w.heap.size+1) zs from hv 6 (by decide));exact J5
theorem i_W (t:Thr) (self:Int) (i:In4) (fa la:Option Addr) (fn fc ln lc:Nat) (w:World) (ha:0≤i.2.1∧i.2.1≤7) (hb:0≤i.2.2.1∧i.2.2.1≤7) (hp:0≤t.pc∧t.pc≤1000) :
  Calls Tryz.prog 133 #[.agg (tkC t fa fn fc la ln lc self i).toArray] w (h_w (d_P t i.2.1 (wrap64 (rgt t i.2.2.1+i.2.2.2))) fa la fn fc ln lc 0 w):=by
 obtain ⟨z,hz⟩:=mn (d_P t i.2.1 (wrap64 (rgt t i.2.2.1+i.2.2.2)));rw [hz];obtain ⟨cs,hcs⟩:∃ cs:List Value,cs=(tkC t fa fn fc la ln lc self i):=⟨_,rfl⟩;obtain ⟨zs,hzs⟩:∃ zs:List Value,zs=thC z fa fn fc la ln lc:=⟨_,rfl⟩;obtain ⟨W,hW,X,R,hB⟩:=N35;have HCA:=hid (c_s hcs);have HCN:=N16;have HCI:=N10;have HZA:=N12;have HZN:=N25;have HZI:=N6;have ⟨HCS,HZS,HX,HR,HB,HW,HZ,HP,Ha,Hb⟩:=hh10 hcs hzs X R hB hW hz hp ha hb;clear hW X R hB hz hp hcs hzs ha hb
 go_enter Tryz.func133,Tryz.ntmps133
 go_upto_region 1 with fail
 rw [←HW.out];refine d_q [some 4,some 5,some 6,some 7,some 8,some 9,some 10,some 11,some 12,some 13,none,some 3] (OpB w cs) (VL [.agg cs.toArray,.agg cs.toArray,.int .i64 (rgt t i.2.2.1),.pointer (some ⟨w.heap.size,14,none⟩),.pointer (some ⟨w.heap.size,17,none⟩),.int .i64 i.2.2.2,.int .i64 (wrap64 (rgt t i.2.2.1+i.2.2.2)),.tuple #[.agg zs.toArray,.int .i64 0],.agg zs.toArray,.int .i64 0,undef,.int .i64 0] 10 (fun w'=>a_p w' (w.heap.size+1) zs)) (by kernel_rfl) (by kernel_rfl) (by decide) rfl ⟨HB.out.drew,b_d HX.out,_,b_d HR.out,rfl⟩ ?_ ?_
 ·show StepsL _ _ _ _ _ _ _
  refine InvV.cons rfl rfl rfl rfl (fun a1 vals w1 C K hK=>?_) ?_
  ·exact J3
  refine InvV.cons rfl rfl rfl rfl (fun a1 vals w1 C K hK=>?_) ?_
  ·exact J3
  refine InvV.cons rfl rfl rfl rfl (fun a1 vals w1 C K hK=>?_) ?_
  ·exact J12
  refine InvV.cons rfl rfl rfl rfl (fun a1 vals w1 C K hK=>?_) ?_
  ·exact J66
  refine InvV.cons rfl rfl rfl rfl (fun a1 vals w1 C K hK=>?_) ?_
  ·exact J68
  refine InvV.cons rfl rfl rfl rfl (fun a1 vals w1 C K hK=>?_) ?_
  ·exact J60
  refine InvV.cons rfl rfl rfl rfl (fun a1 vals w1 C K hK=>?_) ?_
  ·have e0:=N18;have e1:=N100;refine a_d rfl (a_o (v:=.int .i64 (wrap64 (rgt t i.2.2.1+i.2.2.2))) ?_ (a_v hK C rfl rfl));simp [execOp,go_sem,e0,e1,IntWalk.i64_left]
  refine InvV.cons rfl rfl rfl rfl (fun a1 vals w1 C K hK=>?_) ?_
  ·have e0:=N14;have e1:a1.eval (.tmp 10)=.int .i64 (wrap64 (rgt t i.2.2.1+i.2.2.2)):=got C 6 10 rfl rfl rfl rfl;have h0:=a_U t self i (wrap64 (rgt t i.2.2.1+i.2.2.2)) fa la fn fc ln lc w1 Ha.out HP.out;rw [HZ.out,←HCA.out] at h0;refine a_d rfl (a_x _ _ _ rfl 154 rfl [.agg cs.toArray,.int .i64 (wrap64 (rgt t i.2.2.1+i.2.2.2))] (by simp [e0,e1]) (by kernel_rfl) (h0.mono ?_));rintro e w2 ⟨he,hb2⟩;rw [←HZA.out] at he;subst he;exact J18
  refine InvV.cons rfl rfl rfl rfl (fun a1 vals w1 C K hK=>?_) ?_
  ·have e0:=N31;exact J30
  refine InvV.cons rfl rfl rfl rfl (fun a1 vals w1 C K hK=>?_) ?_
  ·have e0:=N31;exact J16
  refine InvV.cons rfl rfl rfl rfl (fun a1 vals w1 C K hK=>?_) ?_
  ·have e0:a1.eval (.tmp 12)=.agg zs.toArray:=got C 8 12 rfl rfl rfl rfl;exact J6
  refine InvV.cons rfl rfl rfl rfl (fun a1 vals w1 C K hK=>?_) ?_
  ·have e0:=N108;exact J16
  exact StepsL.nil
 ·intro vals w1 hb hv;have e3:=g_j (hv 11 (by decide)) rfl;have HR1:=hid (show a_p w1 (w.heap.size+1) zs from hv 10 (by decide));exact J5
theorem i_U (t:Thr) (self:Int) (i:In4) (fa la:Option Addr) (fn fc ln lc:Nat) (w:World) (ha:0≤i.2.1∧i.2.1≤7) (hb:0≤i.2.2.1∧i.2.2.1≤7) (hp:0≤t.pc∧t.pc≤1000) :
  Calls Tryz.prog 134 #[.agg (tkC t fa fn fc la ln lc self i).toArray] w (h_w (d_P t i.2.1 (bits .and .i64 (rgt t i.2.2.1) i.2.2.2)) fa la fn fc ln lc 0 w):=by
 obtain ⟨z,hz⟩:=mn (d_P t i.2.1 (bits .and .i64 (rgt t i.2.2.1) i.2.2.2));rw [hz];obtain ⟨cs,hcs⟩:∃ cs:List Value,cs=(tkC t fa fn fc la ln lc self i):=⟨_,rfl⟩;obtain ⟨zs,hzs⟩:∃ zs:List Value,zs=thC z fa fn fc la ln lc:=⟨_,rfl⟩;obtain ⟨W,hW,X,R,hB⟩:=N35;have HCA:=hid (c_s hcs);have HCN:=N16;have HCI:=N10;have HZA:=N12;have HZN:=N25;have HZI:=N6;have ⟨HCS,HZS,HX,HR,HB,HW,HZ,HP,Ha,Hb⟩:=hh10 hcs hzs X R hB hW hz hp ha hb;clear hW X R hB hz hp hcs hzs ha hb
 go_enter Tryz.func134,Tryz.ntmps134
 go_upto_region 1 with fail
 rw [←HW.out];refine d_q [some 4,some 5,some 6,some 7,some 8,some 9,some 10,some 11,some 12,some 13,none,some 3] (OpB w cs) (VL [.agg cs.toArray,.agg cs.toArray,.int .i64 (rgt t i.2.2.1),.pointer (some ⟨w.heap.size,14,none⟩),.pointer (some ⟨w.heap.size,17,none⟩),.int .i64 i.2.2.2,.int .i64 (bits .and .i64 (rgt t i.2.2.1) i.2.2.2),.tuple #[.agg zs.toArray,.int .i64 0],.agg zs.toArray,.int .i64 0,undef,.int .i64 0] 10 (fun w'=>a_p w' (w.heap.size+1) zs)) (by kernel_rfl) (by kernel_rfl) (by decide) rfl ⟨HB.out.drew,b_d HX.out,_,b_d HR.out,rfl⟩ ?_ ?_
 ·show StepsL _ _ _ _ _ _ _
  refine InvV.cons rfl rfl rfl rfl (fun a1 vals w1 C K hK=>?_) ?_
  ·exact J3
  refine InvV.cons rfl rfl rfl rfl (fun a1 vals w1 C K hK=>?_) ?_
  ·exact J3
  refine InvV.cons rfl rfl rfl rfl (fun a1 vals w1 C K hK=>?_) ?_
  ·exact J12
  refine InvV.cons rfl rfl rfl rfl (fun a1 vals w1 C K hK=>?_) ?_
  ·exact J66
  refine InvV.cons rfl rfl rfl rfl (fun a1 vals w1 C K hK=>?_) ?_
  ·exact J68
  refine InvV.cons rfl rfl rfl rfl (fun a1 vals w1 C K hK=>?_) ?_
  ·exact J60
  refine InvV.cons rfl rfl rfl rfl (fun a1 vals w1 C K hK=>?_) ?_
  ·have e0:=N18;have e1:=N100;refine a_d rfl (a_o (v:=.int .i64 (bits .and .i64 (rgt t i.2.2.1) i.2.2.2)) ?_ (a_v hK C rfl rfl));simp [execOp,go_sem,e0,e1]
  refine InvV.cons rfl rfl rfl rfl (fun a1 vals w1 C K hK=>?_) ?_
  ·have e0:=N14;have e1:a1.eval (.tmp 10)=.int .i64 (bits .and .i64 (rgt t i.2.2.1) i.2.2.2):=got C 6 10 rfl rfl rfl rfl;have h0:=a_U t self i (bits .and .i64 (rgt t i.2.2.1) i.2.2.2) fa la fn fc ln lc w1 Ha.out HP.out;rw [HZ.out,←HCA.out] at h0;refine a_d rfl (a_x _ _ _ rfl 154 rfl [.agg cs.toArray,.int .i64 (bits .and .i64 (rgt t i.2.2.1) i.2.2.2)] (by simp [e0,e1]) (by kernel_rfl) (h0.mono ?_));rintro e w2 ⟨he,hb2⟩;rw [←HZA.out] at he;subst he;exact J18
  refine InvV.cons rfl rfl rfl rfl (fun a1 vals w1 C K hK=>?_) ?_
  ·have e0:=N31;exact J30
  refine InvV.cons rfl rfl rfl rfl (fun a1 vals w1 C K hK=>?_) ?_
  ·have e0:=N31;exact J16
  refine InvV.cons rfl rfl rfl rfl (fun a1 vals w1 C K hK=>?_) ?_
  ·have e0:a1.eval (.tmp 12)=.agg zs.toArray:=got C 8 12 rfl rfl rfl rfl;exact J6
  refine InvV.cons rfl rfl rfl rfl (fun a1 vals w1 C K hK=>?_) ?_
  ·have e0:=N108;exact J16
  exact StepsL.nil
 ·intro vals w1 hb hv;have e3:=g_j (hv 11 (by decide)) rfl;have HR1:=hid (show a_p w1 (w.heap.size+1) zs from hv 10 (by decide));exact J5
theorem k_v (t:Thr) (self:Int) (i:In4) (fa la:Option Addr) (fn fc ln lc:Nat) (w:World) (ha:0≤i.2.1∧i.2.1≤7) (hb:0≤i.2.2.1∧i.2.2.1≤7) (hc:0≤i.2.2.2∧i.2.2.2≤7) (hp:0≤t.pc∧t.pc≤1000) :
  Calls Tryz.prog 135 #[.agg (tkC t fa fn fc la ln lc self i).toArray] w (h_w (d_P t i.2.1 (wrap64 (rgt t i.2.2.1+rgt t i.2.2.2))) fa la fn fc ln lc 0 w):=by
 obtain ⟨z,hz⟩:=mn (d_P t i.2.1 (wrap64 (rgt t i.2.2.1+rgt t i.2.2.2)));rw [hz];obtain ⟨cs,hcs⟩:∃ cs:List Value,cs=(tkC t fa fn fc la ln lc self i):=⟨_,rfl⟩;obtain ⟨zs,hzs⟩:∃ zs:List Value,zs=thC z fa fn fc la ln lc:=⟨_,rfl⟩;obtain ⟨W,hW,X,R,hB⟩:=N35;have HCA:=hid (c_s hcs);have HCN:=N16;have HCI:=N10;have HZA:=N12;have HZN:=N25;have HZI:=N6;have ⟨HCS,HZS,HX,HR,HB,HW,HZ,HP,Ha,Hb,Hc⟩:=hh11 hcs hzs X R hB hW hz hp ha hb hc;clear hW X R hB hz hp hcs hzs ha hb hc
 go_enter Tryz.func135,Tryz.ntmps135
 go_upto_region 1 with fail
 rw [←HW.out];refine d_q [some 4,some 5,some 6,some 7,some 8,some 9,some 10,some 11,some 12,none,some 3] (OpB w cs) (VL [.agg cs.toArray,.agg cs.toArray,.int .i64 (rgt t i.2.2.1),.agg cs.toArray,.int .i64 (rgt t i.2.2.2),.int .i64 (wrap64 (rgt t i.2.2.1+rgt t i.2.2.2)),.tuple #[.agg zs.toArray,.int .i64 0],.agg zs.toArray,.int .i64 0,undef,.int .i64 0] 9 (fun w'=>a_p w' (w.heap.size+1) zs)) (by kernel_rfl) (by kernel_rfl) (by decide) rfl ⟨HB.out.drew,b_d HX.out,_,b_d HR.out,rfl⟩ ?_ ?_
 ·show StepsL _ _ _ _ _ _ _
  refine InvV.cons rfl rfl rfl rfl (fun a1 vals w1 C K hK=>?_) ?_
  ·exact J3
  refine InvV.cons rfl rfl rfl rfl (fun a1 vals w1 C K hK=>?_) ?_
  ·exact J3
  refine InvV.cons rfl rfl rfl rfl (fun a1 vals w1 C K hK=>?_) ?_
  ·exact J12
  refine InvV.cons rfl rfl rfl rfl (fun a1 vals w1 C K hK=>?_) ?_
  ·exact J3
  refine InvV.cons rfl rfl rfl rfl (fun a1 vals w1 C K hK=>?_) ?_
  ·have e0:=N49;have h0:=N61;rw [←HCA.out] at h0;refine a_d rfl (a_x _ _ _ rfl 156 rfl [.agg cs.toArray] (by simp [e0]) (by kernel_rfl) (h0.mono ?_));rintro e w2 ⟨rfl,hb2⟩;exact J18
  refine InvV.cons rfl rfl rfl rfl (fun a1 vals w1 C K hK=>?_) ?_
  ·have e0:=N18;have e1:=N37;refine a_d rfl (a_o (v:=.int .i64 (wrap64 (rgt t i.2.2.1+rgt t i.2.2.2))) ?_ (a_v hK C rfl rfl));simp [execOp,go_sem,e0,e1,IntWalk.i64_left]
  refine InvV.cons rfl rfl rfl rfl (fun a1 vals w1 C K hK=>?_) ?_
  ·have e0:=N14;have e1:a1.eval (.tmp 9)=.int .i64 (wrap64 (rgt t i.2.2.1+rgt t i.2.2.2)):=got C 5 9 rfl rfl rfl rfl;have h0:=a_U t self i (wrap64 (rgt t i.2.2.1+rgt t i.2.2.2)) fa la fn fc ln lc w1 Ha.out HP.out;rw [HZ.out,←HCA.out] at h0;refine a_d rfl (a_x _ _ _ rfl 154 rfl [.agg cs.toArray,.int .i64 (wrap64 (rgt t i.2.2.1+rgt t i.2.2.2))] (by simp [e0,e1]) (by kernel_rfl) (h0.mono ?_));rintro e w2 ⟨he,hb2⟩;rw [←HZA.out] at he;subst he;exact J18
  exact J2
 ·intro vals w1 hb hv;have e3:=N123;have HR1:=N56;exact J5
theorem k_z (t:Thr) (self:Int) (i:In4) (fa la:Option Addr) (fn fc ln lc:Nat) (w:World) (ha:0≤i.2.1∧i.2.1≤7) (hb:0≤i.2.2.1∧i.2.2.1≤7) (hc:0≤i.2.2.2∧i.2.2.2≤7) (hp:0≤t.pc∧t.pc≤1000) :
  Calls Tryz.prog 136 #[.agg (tkC t fa fn fc la ln lc self i).toArray] w (h_w (d_P t i.2.1 (wrap64 (rgt t i.2.2.1 - rgt t i.2.2.2))) fa la fn fc ln lc 0 w):=by
 obtain ⟨z,hz⟩:=mn (d_P t i.2.1 (wrap64 (rgt t i.2.2.1 - rgt t i.2.2.2)));rw [hz];obtain ⟨cs,hcs⟩:∃ cs:List Value,cs=(tkC t fa fn fc la ln lc self i):=⟨_,rfl⟩;obtain ⟨zs,hzs⟩:∃ zs:List Value,zs=thC z fa fn fc la ln lc:=⟨_,rfl⟩;obtain ⟨W,hW,X,R,hB⟩:=N35;have HCA:=hid (c_s hcs);have HCN:=N16;have HCI:=N10;have HZA:=N12;have HZN:=N25;have HZI:=N6;have ⟨HCS,HZS,HX,HR,HB,HW,HZ,HP,Ha,Hb,Hc⟩:=hh11 hcs hzs X R hB hW hz hp ha hb hc;clear hW X R hB hz hp hcs hzs ha hb hc
 go_enter Tryz.func136,Tryz.ntmps136
 go_upto_region 1 with fail
 rw [←HW.out];refine d_q [some 4,some 5,some 6,some 7,some 8,some 9,some 10,some 11,some 12,none,some 3] (OpB w cs) (VL [.agg cs.toArray,.agg cs.toArray,.int .i64 (rgt t i.2.2.1),.agg cs.toArray,.int .i64 (rgt t i.2.2.2),.int .i64 (wrap64 (rgt t i.2.2.1 - rgt t i.2.2.2)),.tuple #[.agg zs.toArray,.int .i64 0],.agg zs.toArray,.int .i64 0,undef,.int .i64 0] 9 (fun w'=>a_p w' (w.heap.size+1) zs)) (by kernel_rfl) (by kernel_rfl) (by decide) rfl ⟨HB.out.drew,b_d HX.out,_,b_d HR.out,rfl⟩ ?_ ?_
 ·show StepsL _ _ _ _ _ _ _
  refine InvV.cons rfl rfl rfl rfl (fun a1 vals w1 C K hK=>?_) ?_
  ·exact J3
  refine InvV.cons rfl rfl rfl rfl (fun a1 vals w1 C K hK=>?_) ?_
  ·exact J3
  refine InvV.cons rfl rfl rfl rfl (fun a1 vals w1 C K hK=>?_) ?_
  ·exact J12
  refine InvV.cons rfl rfl rfl rfl (fun a1 vals w1 C K hK=>?_) ?_
  ·exact J3
  refine InvV.cons rfl rfl rfl rfl (fun a1 vals w1 C K hK=>?_) ?_
  ·have e0:=N49;have h0:=N61;rw [←HCA.out] at h0;refine a_d rfl (a_x _ _ _ rfl 156 rfl [.agg cs.toArray] (by simp [e0]) (by kernel_rfl) (h0.mono ?_));rintro e w2 ⟨rfl,hb2⟩;exact J18
  refine InvV.cons rfl rfl rfl rfl (fun a1 vals w1 C K hK=>?_) ?_
  ·have e0:=N18;have e1:=N37;refine a_d rfl (a_o (v:=.int .i64 (wrap64 (rgt t i.2.2.1 - rgt t i.2.2.2))) ?_ (a_v hK C rfl rfl));simp [execOp,go_sem,e0,e1,IntWalk.i64_left]
  refine InvV.cons rfl rfl rfl rfl (fun a1 vals w1 C K hK=>?_) ?_
  ·have e0:=N14;have e1:a1.eval (.tmp 9)=.int .i64 (wrap64 (rgt t i.2.2.1 - rgt t i.2.2.2)):=got C 5 9 rfl rfl rfl rfl;have h0:=a_U t self i (wrap64 (rgt t i.2.2.1 - rgt t i.2.2.2)) fa la fn fc ln lc w1 Ha.out HP.out;rw [HZ.out,←HCA.out] at h0;refine a_d rfl (a_x _ _ _ rfl 154 rfl [.agg cs.toArray,.int .i64 (wrap64 (rgt t i.2.2.1 - rgt t i.2.2.2))] (by simp [e0,e1]) (by kernel_rfl) (h0.mono ?_));rintro e w2 ⟨he,hb2⟩;rw [←HZA.out] at he;subst he;exact J18
  exact J2
 ·intro vals w1 hb hv;have e3:=N123;have HR1:=N56;exact J5
theorem k_w (t:Thr) (self:Int) (i:In4) (fa la:Option Addr) (fn fc ln lc:Nat) (w:World) (ha:0≤i.2.1∧i.2.1≤7) (hb:0≤i.2.2.1∧i.2.2.1≤7) (hc:0≤i.2.2.2∧i.2.2.2≤7) (hp:0≤t.pc∧t.pc≤1000) :
  Calls Tryz.prog 137 #[.agg (tkC t fa fn fc la ln lc self i).toArray] w (h_w (d_P t i.2.1 (bits .and .i64 (rgt t i.2.2.1) (rgt t i.2.2.2))) fa la fn fc ln lc 0 w):=by
 obtain ⟨z,hz⟩:=mn (d_P t i.2.1 (bits .and .i64 (rgt t i.2.2.1) (rgt t i.2.2.2)));rw [hz];obtain ⟨cs,hcs⟩:∃ cs:List Value,cs=(tkC t fa fn fc la ln lc self i):=⟨_,rfl⟩;obtain ⟨zs,hzs⟩:∃ zs:List Value,zs=thC z fa fn fc la ln lc:=⟨_,rfl⟩;obtain ⟨W,hW,X,R,hB⟩:=N35;have HCA:=hid (c_s hcs);have HCN:=N16;have HCI:=N10;have HZA:=N12;have HZN:=N25;have HZI:=N6;have ⟨HCS,HZS,HX,HR,HB,HW,HZ,HP,Ha,Hb,Hc⟩:=hh11 hcs hzs X R hB hW hz hp ha hb hc;clear hW X R hB hz hp hcs hzs ha hb hc
 go_enter Tryz.func137,Tryz.ntmps137
 go_upto_region 1 with fail
 rw [←HW.out];refine d_q [some 4,some 5,some 6,some 7,some 8,some 9,some 10,some 11,some 12,none,some 3] (OpB w cs) (VL [.agg cs.toArray,.agg cs.toArray,.int .i64 (rgt t i.2.2.1),.agg cs.toArray,.int .i64 (rgt t i.2.2.2),.int .i64 (bits .and .i64 (rgt t i.2.2.1) (rgt t i.2.2.2)),.tuple #[.agg zs.toArray,.int .i64 0],.agg zs.toArray,.int .i64 0,undef,.int .i64 0] 9 (fun w'=>a_p w' (w.heap.size+1) zs)) (by kernel_rfl) (by kernel_rfl) (by decide) rfl ⟨HB.out.drew,b_d HX.out,_,b_d HR.out,rfl⟩ ?_ ?_
 ·show StepsL _ _ _ _ _ _ _
  refine InvV.cons rfl rfl rfl rfl (fun a1 vals w1 C K hK=>?_) ?_
  ·exact J3
  refine InvV.cons rfl rfl rfl rfl (fun a1 vals w1 C K hK=>?_) ?_
  ·exact J3
  refine InvV.cons rfl rfl rfl rfl (fun a1 vals w1 C K hK=>?_) ?_
  ·exact J12
  refine InvV.cons rfl rfl rfl rfl (fun a1 vals w1 C K hK=>?_) ?_
  ·exact J3
  refine InvV.cons rfl rfl rfl rfl (fun a1 vals w1 C K hK=>?_) ?_
  ·have e0:=N49;have h0:=N61;rw [←HCA.out] at h0;refine a_d rfl (a_x _ _ _ rfl 156 rfl [.agg cs.toArray] (by simp [e0]) (by kernel_rfl) (h0.mono ?_));rintro e w2 ⟨rfl,hb2⟩;exact J18
  refine InvV.cons rfl rfl rfl rfl (fun a1 vals w1 C K hK=>?_) ?_
  ·have e0:=N18;have e1:=N37;refine a_d rfl (a_o (v:=.int .i64 (bits .and .i64 (rgt t i.2.2.1) (rgt t i.2.2.2))) ?_ (a_v hK C rfl rfl));simp [execOp,go_sem,e0,e1]
  refine InvV.cons rfl rfl rfl rfl (fun a1 vals w1 C K hK=>?_) ?_
  ·have e0:=N14;have e1:a1.eval (.tmp 9)=.int .i64 (bits .and .i64 (rgt t i.2.2.1) (rgt t i.2.2.2)):=got C 5 9 rfl rfl rfl rfl;have h0:=a_U t self i (bits .and .i64 (rgt t i.2.2.1) (rgt t i.2.2.2)) fa la fn fc ln lc w1 Ha.out HP.out;rw [HZ.out,←HCA.out] at h0;refine a_d rfl (a_x _ _ _ rfl 154 rfl [.agg cs.toArray,.int .i64 (bits .and .i64 (rgt t i.2.2.1) (rgt t i.2.2.2))] (by simp [e0,e1]) (by kernel_rfl) (h0.mono ?_));rintro e w2 ⟨he,hb2⟩;rw [←HZA.out] at he;subst he;exact J18
  exact J2
 ·intro vals w1 hb hv;have e3:=N123;have HR1:=N56;exact J5
theorem k_A (t:Thr) (self:Int) (i:In4) (fa la:Option Addr) (fn fc ln lc:Nat) (w:World) (ha:0≤i.2.1∧i.2.1≤7) (hb:0≤i.2.2.1∧i.2.2.1≤7) (hc:0≤i.2.2.2∧i.2.2.2≤7) (hp:0≤t.pc∧t.pc≤1000) :
  Calls Tryz.prog 138 #[.agg (tkC t fa fn fc la ln lc self i).toArray] w (h_w (d_P t i.2.1 (bits .xor .i64 (rgt t i.2.2.1) (rgt t i.2.2.2))) fa la fn fc ln lc 0 w):=by
 obtain ⟨z,hz⟩:=mn (d_P t i.2.1 (bits .xor .i64 (rgt t i.2.2.1) (rgt t i.2.2.2)));rw [hz];obtain ⟨cs,hcs⟩:∃ cs:List Value,cs=(tkC t fa fn fc la ln lc self i):=⟨_,rfl⟩;obtain ⟨zs,hzs⟩:∃ zs:List Value,zs=thC z fa fn fc la ln lc:=⟨_,rfl⟩;obtain ⟨W,hW,X,R,hB⟩:=N35;have HCA:=hid (c_s hcs);have HCN:=N16;have HCI:=N10;have HZA:=N12;have HZN:=N25;have HZI:=N6;have ⟨HCS,HZS,HX,HR,HB,HW,HZ,HP,Ha,Hb,Hc⟩:=hh11 hcs hzs X R hB hW hz hp ha hb hc;clear hW X R hB hz hp hcs hzs ha hb hc
 go_enter Tryz.func138,Tryz.ntmps138
 go_upto_region 1 with fail
 rw [←HW.out];refine d_q [some 4,some 5,some 6,some 7,some 8,some 9,some 10,some 11,some 12,none,some 3] (OpB w cs) (VL [.agg cs.toArray,.agg cs.toArray,.int .i64 (rgt t i.2.2.1),.agg cs.toArray,.int .i64 (rgt t i.2.2.2),.int .i64 (bits .xor .i64 (rgt t i.2.2.1) (rgt t i.2.2.2)),.tuple #[.agg zs.toArray,.int .i64 0],.agg zs.toArray,.int .i64 0,undef,.int .i64 0] 9 (fun w'=>a_p w' (w.heap.size+1) zs)) (by kernel_rfl) (by kernel_rfl) (by decide) rfl ⟨HB.out.drew,b_d HX.out,_,b_d HR.out,rfl⟩ ?_ ?_
 ·show StepsL _ _ _ _ _ _ _
  refine InvV.cons rfl rfl rfl rfl (fun a1 vals w1 C K hK=>?_) ?_
  ·exact J3
  refine InvV.cons rfl rfl rfl rfl (fun a1 vals w1 C K hK=>?_) ?_
  ·exact J3
  refine InvV.cons rfl rfl rfl rfl (fun a1 vals w1 C K hK=>?_) ?_
  ·exact J12
  refine InvV.cons rfl rfl rfl rfl (fun a1 vals w1 C K hK=>?_) ?_
  ·exact J3
  refine InvV.cons rfl rfl rfl rfl (fun a1 vals w1 C K hK=>?_) ?_
  ·have e0:=N49;have h0:=N61;rw [←HCA.out] at h0;refine a_d rfl (a_x _ _ _ rfl 156 rfl [.agg cs.toArray] (by simp [e0]) (by kernel_rfl) (h0.mono ?_));rintro e w2 ⟨rfl,hb2⟩;exact J18
  refine InvV.cons rfl rfl rfl rfl (fun a1 vals w1 C K hK=>?_) ?_
  ·have e0:=N18;have e1:=N37;refine a_d rfl (a_o (v:=.int .i64 (bits .xor .i64 (rgt t i.2.2.1) (rgt t i.2.2.2))) ?_ (a_v hK C rfl rfl));simp [execOp,go_sem,e0,e1]
  refine InvV.cons rfl rfl rfl rfl (fun a1 vals w1 C K hK=>?_) ?_
  ·have e0:=N14;have e1:a1.eval (.tmp 9)=.int .i64 (bits .xor .i64 (rgt t i.2.2.1) (rgt t i.2.2.2)):=got C 5 9 rfl rfl rfl rfl;have h0:=a_U t self i (bits .xor .i64 (rgt t i.2.2.1) (rgt t i.2.2.2)) fa la fn fc ln lc w1 Ha.out HP.out;rw [HZ.out,←HCA.out] at h0;refine a_d rfl (a_x _ _ _ rfl 154 rfl [.agg cs.toArray,.int .i64 (bits .xor .i64 (rgt t i.2.2.1) (rgt t i.2.2.2))] (by simp [e0,e1]) (by kernel_rfl) (h0.mono ?_));rintro e w2 ⟨he,hb2⟩;rw [←HZA.out] at he;subst he;exact J18
  exact J2
 ·intro vals w1 hb hv;have e3:=N123;have HR1:=N56;exact J5
theorem i_Z (t:Thr) (self:Int) (i:In4) (fa la:Option Addr) (fn fc ln lc:Nat) (w:World) (ha:0≤i.2.1∧i.2.1≤7) (hp:0≤t.pc∧t.pc≤1000) :
  Calls Tryz.prog 141 #[.agg (tkC t fa fn fc la ln lc self i).toArray] w (h_w (brT t (rgt t i.2.1==0) i.2.2.1) fa la fn fc ln lc 0 w):=by
 obtain ⟨z,hz⟩:=mn (brT t (rgt t i.2.1==0) i.2.2.1);rw [hz];obtain ⟨cs,hcs⟩:∃ cs:List Value,cs=(tkC t fa fn fc la ln lc self i):=⟨_,rfl⟩;obtain ⟨zs,hzs⟩:∃ zs:List Value,zs=thC z fa fn fc la ln lc:=⟨_,rfl⟩;obtain ⟨W,hW,X,R,hB⟩:=N35;have HCA:=hid (c_s hcs);have HCN:=N16;have HCI:=N10;have HZA:=N12;have HZN:=N25;have HZI:=N6;have ⟨HCS,HZS,HX,HR,HB,HW,HZ,HP,Ha⟩:=hh9 hcs hzs X R hB hW hz hp ha;clear hW X R hB hz hp hcs hzs ha
 go_enter Tryz.func141,Tryz.ntmps141
 go_upto_region 1 with fail
 rw [←HW.out];refine d_q [some 4,some 5,some 6,some 7,some 8,some 9,some 10,none,some 3] (OpB w cs) (VL [.agg cs.toArray,.agg cs.toArray,.int .i64 (rgt t i.2.1),.bool (rgt t i.2.1==0),.tuple #[.agg zs.toArray,.int .i64 0],.agg zs.toArray,.int .i64 0,undef,.int .i64 0] 7 (fun w'=>a_p w' (w.heap.size+1) zs)) (by kernel_rfl) (by kernel_rfl) (by decide) rfl ⟨HB.out.drew,b_d HX.out,_,b_d HR.out,rfl⟩ ?_ ?_
 ·show StepsL _ _ _ _ _ _ _
  refine InvV.cons rfl rfl rfl rfl (fun a1 vals w1 C K hK=>?_) ?_
  ·exact J3
  refine InvV.cons rfl rfl rfl rfl (fun a1 vals w1 C K hK=>?_) ?_
  ·exact J3
  refine InvV.cons rfl rfl rfl rfl (fun a1 vals w1 C K hK=>?_) ?_
  ·have e0:a1.eval (.tmp 5)=.agg cs.toArray:=got C 1 5 rfl rfl rfl rfl;have h0:=j_Q t self i fa la fn fc ln lc w1 Ha.out;rw [←HCA.out] at h0;refine a_d rfl (a_x _ _ _ rfl 159 rfl [.agg cs.toArray] (by simp [e0]) (by kernel_rfl) (h0.mono ?_));rintro e w2 ⟨rfl,hb2⟩;exact J18
  refine InvV.cons rfl rfl rfl rfl (fun a1 vals w1 C K hK=>?_) ?_
  ·have e0:=N89;refine a_d rfl (a_o (v:=.bool (rgt t i.2.1==0)) ?_ (a_v hK C rfl rfl));simp [execOp,go_sem,e0]
  refine InvV.cons rfl rfl rfl rfl (fun a1 vals w1 C K hK=>?_) ?_
  ·have e0:=N14;have e1:a1.eval (.tmp 7)=.bool (rgt t i.2.1==0):=got C 3 7 rfl rfl rfl rfl;have h0:=d_E t self i (rgt t i.2.1==0) fa la fn fc ln lc w1 HP.out;rw [HZ.out,←HCA.out] at h0;refine a_d rfl (a_x _ _ _ rfl 158 rfl [.agg cs.toArray,.bool (rgt t i.2.1==0)] (by simp [e0,e1]) (by kernel_rfl) (h0.mono ?_));rintro e w2 ⟨he,hb2⟩;rw [←HZA.out] at he;subst he;exact J18
  refine InvV.cons rfl rfl rfl rfl (fun a1 vals w1 C K hK=>?_) ?_
  ·have e0:=N33;exact J30
  refine InvV.cons rfl rfl rfl rfl (fun a1 vals w1 C K hK=>?_) ?_
  ·have e0:=N33;exact J16
  refine InvV.cons rfl rfl rfl rfl (fun a1 vals w1 C K hK=>?_) ?_
  ·have e0:a1.eval (.tmp 9)=.agg zs.toArray:=got C 5 9 rfl rfl rfl rfl;exact J6
  refine InvV.cons rfl rfl rfl rfl (fun a1 vals w1 C K hK=>?_) ?_
  ·have e0:=N109;exact J16
  exact StepsL.nil
 ·intro vals w1 hb hv;have e3:=g_j (hv 8 (by decide)) rfl;have HR1:=hid (show a_p w1 (w.heap.size+1) zs from hv 7 (by decide));exact J5
theorem i_X (t:Thr) (self:Int) (i:In4) (fa la:Option Addr) (fn fc ln lc:Nat) (w:World) (ha:0≤i.2.1∧i.2.1≤7) (hp:0≤t.pc∧t.pc≤1000) :
  Calls Tryz.prog 142 #[.agg (tkC t fa fn fc la ln lc self i).toArray] w (h_w (brT t (rgt t i.2.1 != 0) i.2.2.1) fa la fn fc ln lc 0 w):=by
 obtain ⟨z,hz⟩:=mn (brT t (rgt t i.2.1 != 0) i.2.2.1);rw [hz];obtain ⟨cs,hcs⟩:∃ cs:List Value,cs=(tkC t fa fn fc la ln lc self i):=⟨_,rfl⟩;obtain ⟨zs,hzs⟩:∃ zs:List Value,zs=thC z fa fn fc la ln lc:=⟨_,rfl⟩;obtain ⟨W,hW,X,R,hB⟩:=N35;have HCA:=hid (c_s hcs);have HCN:=N16;have HCI:=N10;have HZA:=N12;have HZN:=N25;have HZI:=N6;have ⟨HCS,HZS,HX,HR,HB,HW,HZ,HP,Ha⟩:=hh9 hcs hzs X R hB hW hz hp ha;clear hW X R hB hz hp hcs hzs ha
 go_enter Tryz.func142,Tryz.ntmps142
 go_upto_region 1 with fail
 rw [←HW.out];refine d_q [some 4,some 5,some 6,some 7,some 8,some 9,some 10,none,some 3] (OpB w cs) (VL [.agg cs.toArray,.agg cs.toArray,.int .i64 (rgt t i.2.1),.bool (rgt t i.2.1 != 0),.tuple #[.agg zs.toArray,.int .i64 0],.agg zs.toArray,.int .i64 0,undef,.int .i64 0] 7 (fun w'=>a_p w' (w.heap.size+1) zs)) (by kernel_rfl) (by kernel_rfl) (by decide) rfl ⟨HB.out.drew,b_d HX.out,_,b_d HR.out,rfl⟩ ?_ ?_
 ·show StepsL _ _ _ _ _ _ _
  refine InvV.cons rfl rfl rfl rfl (fun a1 vals w1 C K hK=>?_) ?_
  ·exact J3
  refine InvV.cons rfl rfl rfl rfl (fun a1 vals w1 C K hK=>?_) ?_
  ·exact J3
  refine InvV.cons rfl rfl rfl rfl (fun a1 vals w1 C K hK=>?_) ?_
  ·have e0:a1.eval (.tmp 5)=.agg cs.toArray:=got C 1 5 rfl rfl rfl rfl;have h0:=j_Q t self i fa la fn fc ln lc w1 Ha.out;rw [←HCA.out] at h0;refine a_d rfl (a_x _ _ _ rfl 159 rfl [.agg cs.toArray] (by simp [e0]) (by kernel_rfl) (h0.mono ?_));rintro e w2 ⟨rfl,hb2⟩;exact J18
  refine InvV.cons rfl rfl rfl rfl (fun a1 vals w1 C K hK=>?_) ?_
  ·have e0:=N89;refine a_d rfl (a_o (v:=.bool (rgt t i.2.1 != 0)) ?_ (a_v hK C rfl rfl));simp [execOp,go_sem,e0]
  refine InvV.cons rfl rfl rfl rfl (fun a1 vals w1 C K hK=>?_) ?_
  ·have e0:=N14;have e1:a1.eval (.tmp 7)=.bool (rgt t i.2.1 != 0):=got C 3 7 rfl rfl rfl rfl;have h0:=d_E t self i (rgt t i.2.1 != 0) fa la fn fc ln lc w1 HP.out;rw [HZ.out,←HCA.out] at h0;refine a_d rfl (a_x _ _ _ rfl 158 rfl [.agg cs.toArray,.bool (rgt t i.2.1 != 0)] (by simp [e0,e1]) (by kernel_rfl) (h0.mono ?_));rintro e w2 ⟨he,hb2⟩;rw [←HZA.out] at he;subst he;exact J18
  refine InvV.cons rfl rfl rfl rfl (fun a1 vals w1 C K hK=>?_) ?_
  ·have e0:=N33;exact J30
  refine InvV.cons rfl rfl rfl rfl (fun a1 vals w1 C K hK=>?_) ?_
  ·have e0:=N33;exact J16
  refine InvV.cons rfl rfl rfl rfl (fun a1 vals w1 C K hK=>?_) ?_
  ·have e0:a1.eval (.tmp 9)=.agg zs.toArray:=got C 5 9 rfl rfl rfl rfl;exact J6
  refine InvV.cons rfl rfl rfl rfl (fun a1 vals w1 C K hK=>?_) ?_
  ·have e0:=N109;exact J16
  exact StepsL.nil
 ·intro vals w1 hb hv;have e3:=g_j (hv 8 (by decide)) rfl;have HR1:=hid (show a_p w1 (w.heap.size+1) zs from hv 7 (by decide));exact J5
end Go.Proofs.YtolabfafgbmdbaaGreatDoor
