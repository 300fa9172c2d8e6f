import Derived.Test.YtogdpojnbgeknaaGreatDoorT8
import Derived.Test.YtogdpojnbgeknaaGreatDoorT0
import Derived.Test.YtogdpojnbgeknaaGreatDoorT9
set_option maxRecDepth 100000
set_option maxHeartbeats 16000000
namespace Go.Proofs.YtogdpojnbgeknaaGreatDoor
open Go.ChangeShapes Go.WideShapes Go.ChangeAt Go.RowKit
open Gen
open Lib (hid)
theorem d_2 (o:Int) (w:World):Calls Tryz.prog 54 #[.int .i64 o] w (g_Q (decide (1≤o∧o≤15)) w):=by
 go_enter Tryz.func54,Tryz.ntmps54
 exact J86
theorem b_F (x0 x1 x2 x3 x4 x5 x6 x7:Int):(#[.int .i64 x0,.int .i64 x1,.int .i64 x2,.int .i64 x3,.int .i64 x4,.int .i64 x5,.int .i64 x6,.int .i64 x7]:Array Value).all (·.oneCell')=true:=by simp [Value.oneCell']
theorem b_Q (r:Nat→Int) (k v:Int) (w:World) (h:0≤k∧k≤7) :
  Calls Tryz.prog 100 #[.agg (rgC r).toArray,.int .i64 k,.int .i64 v] w (fun e w'=>e=.returned (.agg #[.int .i64 ((b_V r k v) 0),.int .i64 ((b_V r k v) 1),.int .i64 ((b_V r k v) 2),.int .i64 ((b_V r k v) 3),.int .i64 ((b_V r k v) 4),.int .i64 ((b_V r k v) 5),.int .i64 ((b_V r k v) 6),.int .i64 ((b_V r k v) 7)])∧Below w.heap.size w w'):=by
 obtain ⟨j,hj,hj8⟩:=a_5 h;subst hj;obtain ⟨W,hW⟩:=nm ((w.alloc (Obj.cells (rgC r).toArray 43)).alloc (Obj.cells rgZ.toArray 43));have X:a_p W w.heap.size (rgC r):=by rw [hW];exact a_s _ (a_e (rgC r) _ rfl)
 have R:a_p W (w.heap.size+1) rgZ:=by rw [hW];exact a_e rgZ _ (by simp)
 have hB:=N2;obtain ⟨V,hV⟩:=nm (W.setCell ⟨w.heap.size,j,none⟩ (.int .i64 v));obtain ⟨s,hs⟩:=mn (b_V r j v)
 have X2:a_p V w.heap.size (rgC s):=by
  have h1:=a_A X j (by simp;omega) (.int .i64 v);rw [r_a r j hj8 v,←hV,hs] at h1;exact h1
 have R2:a_p V (w.heap.size+1) rgZ:=by rw [hV];exact a_m R (by omega) _
 have hB2:Below w.heap.size w V:=by rw [hV];exact hB.setCell (p:=⟨w.heap.size,j,none⟩) (Nat.le_refl _) _
 obtain ⟨kr,fr⟩:=X j _ (show ((rgC r):List Value)[j]?=some (.int .i64 (r j)) by
  rcases (show j=0∨j=1∨j=2∨j=3∨j=4∨j=5∨j=6∨j=7 by omega) with rfl | rfl | rfl | rfl | rfl | rfl | rfl | rfl <;> rfl)
 have i1:(0:Int)≤j:=by omega
 have i2:(j:Int) < 8:=by omega
 have ⟨HX2,HR2,HB,HW,HV⟩:=hh5 X2 R2 hB2 hW hV;rw [hs];clear hW X R hB hV X2 R2 hB2 hs h
 go_enter Tryz.func100,Tryz.ntmps100
 go_upto_region 1 with fail
 rw [←HW.out]
 go_upto_region 2 with fail
 rw [←HV.out];clear kr fr
 go_wp2_with (first | (refine wpList_load_mid rfl 43 _ rfl w.heap.size 0 rfl (rgC s) _ (a_f HX2.out) Tryz.underlying43 rfl (by kernel_rfl) ?_) | (refine a_c rfl 43 _ _ rfl (w.heap.size+1) (rgC s).toArray rfl rfl _ HR2.out rfl (by kernel_rfl) (b_F _ _ _ _ _ _ _ _) ?_;intro U HU))
 refine a_V (X:=.agg (rgC s).toArray) ⟨w.heap.size+1,0,none⟩ rfl rfl rfl ?_ ?_
 ·have h:=a_q (xs:=(rgC s)) HR2.out rfl;rw [show U=_ from HU.out];exact run_loadVar_mid _ _ 0 _ _ _ (a_f h) Tryz.underlying43 rfl (by kernel_rfl)
 ·refine ⟨rfl,?_⟩;rw [show U=_ from HU.out];exact a_h (by omega) HB.out
theorem k_D (t:Thr) (self:Int) (i:In4) (fa la:Option Addr) (fn fc ln lc:Nat) (w:World) (ha:0≤i.2.1∧i.2.1≤7) (hb:0≤i.2.2.1∧i.2.2.1≤7) (hp:0≤t.pc∧t.pc≤1000) :
  Calls Tryz.prog 132 #[.agg (tkC t fa fn fc la ln lc self i).toArray] w (i_2 (c_Z t i.2.1 (rgt t i.2.2.1)) fa la fn fc ln lc 0 w):=by
 obtain ⟨z,hz⟩:=mn (c_Z t i.2.1 (rgt t i.2.2.1));rw [hz];obtain ⟨cs,hcs⟩:∃ cs:List Value,cs=(tkC t fa fn fc la ln lc self i):=⟨_,rfl⟩;obtain ⟨zs,hzs⟩:∃ zs:List Value,zs=thC z fa fn fc la ln lc:=⟨_,rfl⟩;obtain ⟨W,hW,X,R,hB⟩:=N81;have HCA:=hid (d_z hcs);have HCN:=N47;have HCI:=N22;have HZA:=N34;have HZN:=N62;have HZI:=N17;have ⟨HCS,HZS,HX,HR,HB,HW,HZ,HP,Ha,Hb⟩:=hh10 hcs hzs X R hB hW hz hp ha hb;clear hW X R hB hz hp hcs hzs ha hb
 go_enter Tryz.func132,Tryz.ntmps132
 go_upto_region 1 with fail
 rw [←HW.out];refine e_s [some 4,some 5,some 6,some 7,some 8,some 9,none,some 3] (OpB w cs) (VL [.agg cs.toArray,.agg cs.toArray,.int .i64 (rgt t i.2.2.1),.tuple #[.agg zs.toArray,.int .i64 0],.agg zs.toArray,.int .i64 0,undef,.int .i64 0] 6 (fun w'=>a_p w' (w.heap.size+1) zs)) (by kernel_rfl) (by kernel_rfl) (by decide) rfl ⟨HB.out.drew,b_J HX.out,_,b_J HR.out,rfl⟩ ?_ ?_
 ·show StepsL _ _ _ _ _ _ _
  refine InvV.cons rfl rfl rfl rfl (fun a1 vals w1 C K hK=>?_) ?_
  ·exact J3
  refine InvV.cons rfl rfl rfl rfl (fun a1 vals w1 C K hK=>?_) ?_
  ·exact J3
  refine InvV.cons rfl rfl rfl rfl (fun a1 vals w1 C K hK=>?_) ?_
  ·exact J13
  refine InvV.cons rfl rfl rfl rfl (fun a1 vals w1 C K hK=>?_) ?_
  ·have e0:=N39;have e1:a1.eval (.tmp 6)=.int .i64 (rgt t i.2.2.1):=got C 2 6 rfl rfl rfl rfl;have h0:=b_n t self i (rgt t i.2.2.1) fa la fn fc ln lc w1 Ha.out HP.out;rw [HZ.out,←HCA.out] at h0;refine a_g rfl (a_O _ _ _ rfl 154 rfl [.agg cs.toArray,.int .i64 (rgt t i.2.2.1)] (by simp [e0,e1]) (by kernel_rfl) (h0.mono ?_));rintro e w2 ⟨he,hb2⟩;rw [←HZA.out] at he;subst he;exact J23
  refine InvV.cons rfl rfl rfl rfl (fun a1 vals w1 C K hK=>?_) ?_
  ·have e0:=N177;exact J38
  refine InvV.cons rfl rfl rfl rfl (fun a1 vals w1 C K hK=>?_) ?_
  ·have e0:=N177;exact J21
  refine InvV.cons rfl rfl rfl rfl (fun a1 vals w1 C K hK=>?_) ?_
  ·have e0:a1.eval (.tmp 8)=.agg zs.toArray:=got C 4 8 rfl rfl rfl rfl;exact J7
  refine InvV.cons rfl rfl rfl rfl (fun a1 vals w1 C K hK=>?_) ?_
  ·have e0:a1.tmps[9]?.getD undef=.int .i64 0:=d_X C 5 9 rfl rfl rfl rfl;exact J21
  exact StepsL.nil
 ·intro vals w1 hb hv;have e3:=h_I (hv 7 (by decide)) rfl;have HR1:=hid (show a_p w1 (w.heap.size+1) zs from hv 6 (by decide));exact J6
theorem k_E (t:Thr) (self:Int) (i:In4) (fa la:Option Addr) (fn fc ln lc:Nat) (w:World) (ha:0≤i.2.1∧i.2.1≤7) (hb:0≤i.2.2.1∧i.2.2.1≤7) (hp:0≤t.pc∧t.pc≤1000) :
  Calls Tryz.prog 133 #[.agg (tkC t fa fn fc la ln lc self i).toArray] w (i_2 (c_Z t i.2.1 (wrap64 (rgt t i.2.2.1+i.2.2.2))) fa la fn fc ln lc 0 w):=by
 obtain ⟨z,hz⟩:=mn (c_Z t i.2.1 (wrap64 (rgt t i.2.2.1+i.2.2.2)));rw [hz];obtain ⟨cs,hcs⟩:∃ cs:List Value,cs=(tkC t fa fn fc la ln lc self i):=⟨_,rfl⟩;obtain ⟨zs,hzs⟩:∃ zs:List Value,zs=thC z fa fn fc la ln lc:=⟨_,rfl⟩;obtain ⟨W,hW,X,R,hB⟩:=N81;have HCA:=hid (d_z hcs);have HCN:=N47;have HCI:=N22;have HZA:=N34;have HZN:=N62;have HZI:=N17;have ⟨HCS,HZS,HX,HR,HB,HW,HZ,HP,Ha,Hb⟩:=hh10 hcs hzs X R hB hW hz hp ha hb;clear hW X R hB hz hp hcs hzs ha hb
 go_enter Tryz.func133,Tryz.ntmps133
 go_upto_region 1 with fail
 rw [←HW.out];refine e_s [some 4,some 5,some 6,some 7,some 8,some 9,some 10,some 11,some 12,some 13,none,some 3] (OpB w cs) (VL [.agg cs.toArray,.agg cs.toArray,.int .i64 (rgt t i.2.2.1),.pointer (some ⟨w.heap.size,14,none⟩),.pointer (some ⟨w.heap.size,17,none⟩),.int .i64 i.2.2.2,.int .i64 (wrap64 (rgt t i.2.2.1+i.2.2.2)),.tuple #[.agg zs.toArray,.int .i64 0],.agg zs.toArray,.int .i64 0,undef,.int .i64 0] 10 (fun w'=>a_p w' (w.heap.size+1) zs)) (by kernel_rfl) (by kernel_rfl) (by decide) rfl ⟨HB.out.drew,b_J HX.out,_,b_J HR.out,rfl⟩ ?_ ?_
 ·show StepsL _ _ _ _ _ _ _
  refine InvV.cons rfl rfl rfl rfl (fun a1 vals w1 C K hK=>?_) ?_
  ·exact J3
  refine InvV.cons rfl rfl rfl rfl (fun a1 vals w1 C K hK=>?_) ?_
  ·exact J3
  refine InvV.cons rfl rfl rfl rfl (fun a1 vals w1 C K hK=>?_) ?_
  ·exact J13
  refine InvV.cons rfl rfl rfl rfl (fun a1 vals w1 C K hK=>?_) ?_
  ·exact J77
  refine InvV.cons rfl rfl rfl rfl (fun a1 vals w1 C K hK=>?_) ?_
  ·exact J78
  refine InvV.cons rfl rfl rfl rfl (fun a1 vals w1 C K hK=>?_) ?_
  ·exact J73
  refine InvV.cons rfl rfl rfl rfl (fun a1 vals w1 C K hK=>?_) ?_
  ·have e0:=N55;have e1:=N214;refine a_g rfl (a_x (v:=.int .i64 (wrap64 (rgt t i.2.2.1+i.2.2.2))) ?_ (a_J hK C rfl rfl));simp [execOp,go_sem,e0,e1,IntWalk.i64_left]
  refine InvV.cons rfl rfl rfl rfl (fun a1 vals w1 C K hK=>?_) ?_
  ·have e0:=N39;have e1:a1.eval (.tmp 10)=.int .i64 (wrap64 (rgt t i.2.2.1+i.2.2.2)):=got C 6 10 rfl rfl rfl rfl;have h0:=b_n t self i (wrap64 (rgt t i.2.2.1+i.2.2.2)) fa la fn fc ln lc w1 Ha.out HP.out;rw [HZ.out,←HCA.out] at h0;refine a_g rfl (a_O _ _ _ rfl 154 rfl [.agg cs.toArray,.int .i64 (wrap64 (rgt t i.2.2.1+i.2.2.2))] (by simp [e0,e1]) (by kernel_rfl) (h0.mono ?_));rintro e w2 ⟨he,hb2⟩;rw [←HZA.out] at he;subst he;exact J23
  refine InvV.cons rfl rfl rfl rfl (fun a1 vals w1 C K hK=>?_) ?_
  ·have e0:=N75;exact J38
  refine InvV.cons rfl rfl rfl rfl (fun a1 vals w1 C K hK=>?_) ?_
  ·have e0:=N75;exact J21
  refine InvV.cons rfl rfl rfl rfl (fun a1 vals w1 C K hK=>?_) ?_
  ·have e0:a1.eval (.tmp 12)=.agg zs.toArray:=got C 8 12 rfl rfl rfl rfl;exact J7
  refine InvV.cons rfl rfl rfl rfl (fun a1 vals w1 C K hK=>?_) ?_
  ·have e0:=N227;exact J21
  exact StepsL.nil
 ·intro vals w1 hb hv;have e3:=h_I (hv 11 (by decide)) rfl;have HR1:=hid (show a_p w1 (w.heap.size+1) zs from hv 10 (by decide));exact J6
theorem k_C (t:Thr) (self:Int) (i:In4) (fa la:Option Addr) (fn fc ln lc:Nat) (w:World) (ha:0≤i.2.1∧i.2.1≤7) (hb:0≤i.2.2.1∧i.2.2.1≤7) (hp:0≤t.pc∧t.pc≤1000) :
  Calls Tryz.prog 134 #[.agg (tkC t fa fn fc la ln lc self i).toArray] w (i_2 (c_Z t i.2.1 (bits .and .i64 (rgt t i.2.2.1) i.2.2.2)) fa la fn fc ln lc 0 w):=by
 obtain ⟨z,hz⟩:=mn (c_Z t i.2.1 (bits .and .i64 (rgt t i.2.2.1) i.2.2.2));rw [hz];obtain ⟨cs,hcs⟩:∃ cs:List Value,cs=(tkC t fa fn fc la ln lc self i):=⟨_,rfl⟩;obtain ⟨zs,hzs⟩:∃ zs:List Value,zs=thC z fa fn fc la ln lc:=⟨_,rfl⟩;obtain ⟨W,hW,X,R,hB⟩:=N81;have HCA:=hid (d_z hcs);have HCN:=N47;have HCI:=N22;have HZA:=N34;have HZN:=N62;have HZI:=N17;have ⟨HCS,HZS,HX,HR,HB,HW,HZ,HP,Ha,Hb⟩:=hh10 hcs hzs X R hB hW hz hp ha hb;clear hW X R hB hz hp hcs hzs ha hb
 go_enter Tryz.func134,Tryz.ntmps134
 go_upto_region 1 with fail
 rw [←HW.out];refine e_s [some 4,some 5,some 6,some 7,some 8,some 9,some 10,some 11,some 12,some 13,none,some 3] (OpB w cs) (VL [.agg cs.toArray,.agg cs.toArray,.int .i64 (rgt t i.2.2.1),.pointer (some ⟨w.heap.size,14,none⟩),.pointer (some ⟨w.heap.size,17,none⟩),.int .i64 i.2.2.2,.int .i64 (bits .and .i64 (rgt t i.2.2.1) i.2.2.2),.tuple #[.agg zs.toArray,.int .i64 0],.agg zs.toArray,.int .i64 0,undef,.int .i64 0] 10 (fun w'=>a_p w' (w.heap.size+1) zs)) (by kernel_rfl) (by kernel_rfl) (by decide) rfl ⟨HB.out.drew,b_J HX.out,_,b_J HR.out,rfl⟩ ?_ ?_
 ·show StepsL _ _ _ _ _ _ _
  refine InvV.cons rfl rfl rfl rfl (fun a1 vals w1 C K hK=>?_) ?_
  ·exact J3
  refine InvV.cons rfl rfl rfl rfl (fun a1 vals w1 C K hK=>?_) ?_
  ·exact J3
  refine InvV.cons rfl rfl rfl rfl (fun a1 vals w1 C K hK=>?_) ?_
  ·exact J13
  refine InvV.cons rfl rfl rfl rfl (fun a1 vals w1 C K hK=>?_) ?_
  ·exact J77
  refine InvV.cons rfl rfl rfl rfl (fun a1 vals w1 C K hK=>?_) ?_
  ·exact J78
  refine InvV.cons rfl rfl rfl rfl (fun a1 vals w1 C K hK=>?_) ?_
  ·exact J73
  refine InvV.cons rfl rfl rfl rfl (fun a1 vals w1 C K hK=>?_) ?_
  ·have e0:=N55;have e1:=N214;refine a_g rfl (a_x (v:=.int .i64 (bits .and .i64 (rgt t i.2.2.1) i.2.2.2)) ?_ (a_J hK C rfl rfl));simp [execOp,go_sem,e0,e1]
  refine InvV.cons rfl rfl rfl rfl (fun a1 vals w1 C K hK=>?_) ?_
  ·have e0:=N39;have e1:a1.eval (.tmp 10)=.int .i64 (bits .and .i64 (rgt t i.2.2.1) i.2.2.2):=got C 6 10 rfl rfl rfl rfl;have h0:=b_n t self i (bits .and .i64 (rgt t i.2.2.1) i.2.2.2) fa la fn fc ln lc w1 Ha.out HP.out;rw [HZ.out,←HCA.out] at h0;refine a_g rfl (a_O _ _ _ rfl 154 rfl [.agg cs.toArray,.int .i64 (bits .and .i64 (rgt t i.2.2.1) i.2.2.2)] (by simp [e0,e1]) (by kernel_rfl) (h0.mono ?_));rintro e w2 ⟨he,hb2⟩;rw [←HZA.out] at he;subst he;exact J23
  refine InvV.cons rfl rfl rfl rfl (fun a1 vals w1 C K hK=>?_) ?_
  ·have e0:=N75;exact J38
  refine InvV.cons rfl rfl rfl rfl (fun a1 vals w1 C K hK=>?_) ?_
  ·have e0:=N75;exact J21
  refine InvV.cons rfl rfl rfl rfl (fun a1 vals w1 C K hK=>?_) ?_
  ·have e0:a1.eval (.tmp 12)=.agg zs.toArray:=got C 8 12 rfl rfl rfl rfl;exact J7
  refine InvV.cons rfl rfl rfl rfl (fun a1 vals w1 C K hK=>?_) ?_
  ·have e0:=N227;exact J21
  exact StepsL.nil
 ·intro vals w1 hb hv;have e3:=h_I (hv 11 (by decide)) rfl;have HR1:=hid (show a_p w1 (w.heap.size+1) zs from hv 10 (by decide));exact J6
theorem m_G (t:Thr) (self:Int) (i:In4) (fa la:Option Addr) (fn fc ln lc:Nat) (w:World) (ha:0≤i.2.1∧i.2.1≤7) (hb:0≤i.2.2.1∧i.2.2.1≤7) (hc:0≤i.2.2.2∧i.2.2.2≤7) (hp:0≤t.pc∧t.pc≤1000) :
  Calls Tryz.prog 135 #[.agg (tkC t fa fn fc la ln lc self i).toArray] w (i_2 (c_Z t i.2.1 (wrap64 (rgt t i.2.2.1+rgt t i.2.2.2))) fa la fn fc ln lc 0 w):=by
 obtain ⟨z,hz⟩:=mn (c_Z t i.2.1 (wrap64 (rgt t i.2.2.1+rgt t i.2.2.2)));rw [hz];obtain ⟨cs,hcs⟩:∃ cs:List Value,cs=(tkC t fa fn fc la ln lc self i):=⟨_,rfl⟩;obtain ⟨zs,hzs⟩:∃ zs:List Value,zs=thC z fa fn fc la ln lc:=⟨_,rfl⟩;obtain ⟨W,hW,X,R,hB⟩:=N81;have HCA:=hid (d_z hcs);have HCN:=N47;have HCI:=N22;have HZA:=N34;have HZN:=N62;have HZI:=N17;have ⟨HCS,HZS,HX,HR,HB,HW,HZ,HP,Ha,Hb,Hc⟩:=hh11 hcs hzs X R hB hW hz hp ha hb hc;clear hW X R hB hz hp hcs hzs ha hb hc
 go_enter Tryz.func135,Tryz.ntmps135
 go_upto_region 1 with fail
 rw [←HW.out];refine e_s [some 4,some 5,some 6,some 7,some 8,some 9,some 10,some 11,some 12,none,some 3] (OpB w cs) (VL [.agg cs.toArray,.agg cs.toArray,.int .i64 (rgt t i.2.2.1),.agg cs.toArray,.int .i64 (rgt t i.2.2.2),.int .i64 (wrap64 (rgt t i.2.2.1+rgt t i.2.2.2)),.tuple #[.agg zs.toArray,.int .i64 0],.agg zs.toArray,.int .i64 0,undef,.int .i64 0] 9 (fun w'=>a_p w' (w.heap.size+1) zs)) (by kernel_rfl) (by kernel_rfl) (by decide) rfl ⟨HB.out.drew,b_J HX.out,_,b_J HR.out,rfl⟩ ?_ ?_
 ·show StepsL _ _ _ _ _ _ _
  refine InvV.cons rfl rfl rfl rfl (fun a1 vals w1 C K hK=>?_) ?_
  ·exact J3
  refine InvV.cons rfl rfl rfl rfl (fun a1 vals w1 C K hK=>?_) ?_
  ·exact J3
  refine InvV.cons rfl rfl rfl rfl (fun a1 vals w1 C K hK=>?_) ?_
  ·exact J13
  refine InvV.cons rfl rfl rfl rfl (fun a1 vals w1 C K hK=>?_) ?_
  ·exact J3
  refine InvV.cons rfl rfl rfl rfl (fun a1 vals w1 C K hK=>?_) ?_
  ·have e0:=N118;have h0:=N146;rw [←HCA.out] at h0;refine a_g rfl (a_O _ _ _ rfl 156 rfl [.agg cs.toArray] (by simp [e0]) (by kernel_rfl) (h0.mono ?_));rintro e w2 ⟨rfl,hb2⟩;exact J23
  refine InvV.cons rfl rfl rfl rfl (fun a1 vals w1 C K hK=>?_) ?_
  ·have e0:=N55;have e1:=N95;refine a_g rfl (a_x (v:=.int .i64 (wrap64 (rgt t i.2.2.1+rgt t i.2.2.2))) ?_ (a_J hK C rfl rfl));simp [execOp,go_sem,e0,e1,IntWalk.i64_left]
  refine InvV.cons rfl rfl rfl rfl (fun a1 vals w1 C K hK=>?_) ?_
  ·have e0:=N39;have e1:a1.eval (.tmp 9)=.int .i64 (wrap64 (rgt t i.2.2.1+rgt t i.2.2.2)):=got C 5 9 rfl rfl rfl rfl;have h0:=b_n t self i (wrap64 (rgt t i.2.2.1+rgt t i.2.2.2)) fa la fn fc ln lc w1 Ha.out HP.out;rw [HZ.out,←HCA.out] at h0;refine a_g rfl (a_O _ _ _ rfl 154 rfl [.agg cs.toArray,.int .i64 (wrap64 (rgt t i.2.2.1+rgt t i.2.2.2))] (by simp [e0,e1]) (by kernel_rfl) (h0.mono ?_));rintro e w2 ⟨he,hb2⟩;rw [←HZA.out] at he;subst he;exact J23
  exact J2
 ·intro vals w1 hb hv;have e3:=N249;have HR1:=N136;exact J6
theorem m_K (t:Thr) (self:Int) (i:In4) (fa la:Option Addr) (fn fc ln lc:Nat) (w:World) (ha:0≤i.2.1∧i.2.1≤7) (hb:0≤i.2.2.1∧i.2.2.1≤7) (hc:0≤i.2.2.2∧i.2.2.2≤7) (hp:0≤t.pc∧t.pc≤1000) :
  Calls Tryz.prog 136 #[.agg (tkC t fa fn fc la ln lc self i).toArray] w (i_2 (c_Z t i.2.1 (wrap64 (rgt t i.2.2.1 - rgt t i.2.2.2))) fa la fn fc ln lc 0 w):=by
 obtain ⟨z,hz⟩:=mn (c_Z t i.2.1 (wrap64 (rgt t i.2.2.1 - rgt t i.2.2.2)));rw [hz];obtain ⟨cs,hcs⟩:∃ cs:List Value,cs=(tkC t fa fn fc la ln lc self i):=⟨_,rfl⟩;obtain ⟨zs,hzs⟩:∃ zs:List Value,zs=thC z fa fn fc la ln lc:=⟨_,rfl⟩;obtain ⟨W,hW,X,R,hB⟩:=N81;have HCA:=hid (d_z hcs);have HCN:=N47;have HCI:=N22;have HZA:=N34;have HZN:=N62;have HZI:=N17;have ⟨HCS,HZS,HX,HR,HB,HW,HZ,HP,Ha,Hb,Hc⟩:=hh11 hcs hzs X R hB hW hz hp ha hb hc;clear hW X R hB hz hp hcs hzs ha hb hc
 go_enter Tryz.func136,Tryz.ntmps136
 go_upto_region 1 with fail
 rw [←HW.out];refine e_s [some 4,some 5,some 6,some 7,some 8,some 9,some 10,some 11,some 12,none,some 3] (OpB w cs) (VL [.agg cs.toArray,.agg cs.toArray,.int .i64 (rgt t i.2.2.1),.agg cs.toArray,.int .i64 (rgt t i.2.2.2),.int .i64 (wrap64 (rgt t i.2.2.1 - rgt t i.2.2.2)),.tuple #[.agg zs.toArray,.int .i64 0],.agg zs.toArray,.int .i64 0,undef,.int .i64 0] 9 (fun w'=>a_p w' (w.heap.size+1) zs)) (by kernel_rfl) (by kernel_rfl) (by decide) rfl ⟨HB.out.drew,b_J HX.out,_,b_J HR.out,rfl⟩ ?_ ?_
 ·show StepsL _ _ _ _ _ _ _
  refine InvV.cons rfl rfl rfl rfl (fun a1 vals w1 C K hK=>?_) ?_
  ·exact J3
  refine InvV.cons rfl rfl rfl rfl (fun a1 vals w1 C K hK=>?_) ?_
  ·exact J3
  refine InvV.cons rfl rfl rfl rfl (fun a1 vals w1 C K hK=>?_) ?_
  ·exact J13
  refine InvV.cons rfl rfl rfl rfl (fun a1 vals w1 C K hK=>?_) ?_
  ·exact J3
  refine InvV.cons rfl rfl rfl rfl (fun a1 vals w1 C K hK=>?_) ?_
  ·have e0:=N118;have h0:=N146;rw [←HCA.out] at h0;refine a_g rfl (a_O _ _ _ rfl 156 rfl [.agg cs.toArray] (by simp [e0]) (by kernel_rfl) (h0.mono ?_));rintro e w2 ⟨rfl,hb2⟩;exact J23
  refine InvV.cons rfl rfl rfl rfl (fun a1 vals w1 C K hK=>?_) ?_
  ·have e0:=N55;have e1:=N95;refine a_g rfl (a_x (v:=.int .i64 (wrap64 (rgt t i.2.2.1 - rgt t i.2.2.2))) ?_ (a_J hK C rfl rfl));simp [execOp,go_sem,e0,e1,IntWalk.i64_left]
  refine InvV.cons rfl rfl rfl rfl (fun a1 vals w1 C K hK=>?_) ?_
  ·have e0:=N39;have e1:a1.eval (.tmp 9)=.int .i64 (wrap64 (rgt t i.2.2.1 - rgt t i.2.2.2)):=got C 5 9 rfl rfl rfl rfl;have h0:=b_n t self i (wrap64 (rgt t i.2.2.1 - rgt t i.2.2.2)) fa la fn fc ln lc w1 Ha.out HP.out;rw [HZ.out,←HCA.out] at h0;refine a_g rfl (a_O _ _ _ rfl 154 rfl [.agg cs.toArray,.int .i64 (wrap64 (rgt t i.2.2.1 - rgt t i.2.2.2))] (by simp [e0,e1]) (by kernel_rfl) (h0.mono ?_));rintro e w2 ⟨he,hb2⟩;rw [←HZA.out] at he;subst he;exact J23
  exact J2
 ·intro vals w1 hb hv;have e3:=N249;have HR1:=N136;exact J6
theorem m_H (t:Thr) (self:Int) (i:In4) (fa la:Option Addr) (fn fc ln lc:Nat) (w:World) (ha:0≤i.2.1∧i.2.1≤7) (hb:0≤i.2.2.1∧i.2.2.1≤7) (hc:0≤i.2.2.2∧i.2.2.2≤7) (hp:0≤t.pc∧t.pc≤1000) :
  Calls Tryz.prog 137 #[.agg (tkC t fa fn fc la ln lc self i).toArray] w (i_2 (c_Z t i.2.1 (bits .and .i64 (rgt t i.2.2.1) (rgt t i.2.2.2))) fa la fn fc ln lc 0 w):=by
 obtain ⟨z,hz⟩:=mn (c_Z t i.2.1 (bits .and .i64 (rgt t i.2.2.1) (rgt t i.2.2.2)));rw [hz];obtain ⟨cs,hcs⟩:∃ cs:List Value,cs=(tkC t fa fn fc la ln lc self i):=⟨_,rfl⟩;obtain ⟨zs,hzs⟩:∃ zs:List Value,zs=thC z fa fn fc la ln lc:=⟨_,rfl⟩;obtain ⟨W,hW,X,R,hB⟩:=N81;have HCA:=hid (d_z hcs);have HCN:=N47;have HCI:=N22;have HZA:=N34;have HZN:=N62;have HZI:=N17;have ⟨HCS,HZS,HX,HR,HB,HW,HZ,HP,Ha,Hb,Hc⟩:=hh11 hcs hzs X R hB hW hz hp ha hb hc;clear hW X R hB hz hp hcs hzs ha hb hc
 go_enter Tryz.func137,Tryz.ntmps137
 go_upto_region 1 with fail
 rw [←HW.out];refine e_s [some 4,some 5,some 6,some 7,some 8,some 9,some 10,some 11,some 12,none,some 3] (OpB w cs) (VL [.agg cs.toArray,.agg cs.toArray,.int .i64 (rgt t i.2.2.1),.agg cs.toArray,.int .i64 (rgt t i.2.2.2),.int .i64 (bits .and .i64 (rgt t i.2.2.1) (rgt t i.2.2.2)),.tuple #[.agg zs.toArray,.int .i64 0],.agg zs.toArray,.int .i64 0,undef,.int .i64 0] 9 (fun w'=>a_p w' (w.heap.size+1) zs)) (by kernel_rfl) (by kernel_rfl) (by decide) rfl ⟨HB.out.drew,b_J HX.out,_,b_J HR.out,rfl⟩ ?_ ?_
 ·show StepsL _ _ _ _ _ _ _
  refine InvV.cons rfl rfl rfl rfl (fun a1 vals w1 C K hK=>?_) ?_
  ·exact J3
  refine InvV.cons rfl rfl rfl rfl (fun a1 vals w1 C K hK=>?_) ?_
  ·exact J3
  refine InvV.cons rfl rfl rfl rfl (fun a1 vals w1 C K hK=>?_) ?_
  ·exact J13
  refine InvV.cons rfl rfl rfl rfl (fun a1 vals w1 C K hK=>?_) ?_
  ·exact J3
  refine InvV.cons rfl rfl rfl rfl (fun a1 vals w1 C K hK=>?_) ?_
  ·have e0:=N118;have h0:=N146;rw [←HCA.out] at h0;refine a_g rfl (a_O _ _ _ rfl 156 rfl [.agg cs.toArray] (by simp [e0]) (by kernel_rfl) (h0.mono ?_));rintro e w2 ⟨rfl,hb2⟩;exact J23
  refine InvV.cons rfl rfl rfl rfl (fun a1 vals w1 C K hK=>?_) ?_
  ·have e0:=N55;have e1:=N95;refine a_g rfl (a_x (v:=.int .i64 (bits .and .i64 (rgt t i.2.2.1) (rgt t i.2.2.2))) ?_ (a_J hK C rfl rfl));simp [execOp,go_sem,e0,e1]
  refine InvV.cons rfl rfl rfl rfl (fun a1 vals w1 C K hK=>?_) ?_
  ·have e0:=N39;have e1:a1.eval (.tmp 9)=.int .i64 (bits .and .i64 (rgt t i.2.2.1) (rgt t i.2.2.2)):=got C 5 9 rfl rfl rfl rfl;have h0:=b_n t self i (bits .and .i64 (rgt t i.2.2.1) (rgt t i.2.2.2)) fa la fn fc ln lc w1 Ha.out HP.out;rw [HZ.out,←HCA.out] at h0;refine a_g rfl (a_O _ _ _ rfl 154 rfl [.agg cs.toArray,.int .i64 (bits .and .i64 (rgt t i.2.2.1) (rgt t i.2.2.2))] (by simp [e0,e1]) (by kernel_rfl) (h0.mono ?_));rintro e w2 ⟨he,hb2⟩;rw [←HZA.out] at he;subst he;exact J23
  exact J2
 ·intro vals w1 hb hv;have e3:=N249;have HR1:=N136;exact J6
end Go.Proofs.YtogdpojnbgeknaaGreatDoor
