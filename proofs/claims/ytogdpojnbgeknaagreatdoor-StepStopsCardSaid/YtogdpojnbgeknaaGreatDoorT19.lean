import Derived.Test.YtogdpojnbgeknaaGreatDoorT9
import Derived.Test.YtogdpojnbgeknaaGreatDoorT0
import Derived.Test.YtogdpojnbgeknaaGreatDoorT8
set_option maxRecDepth 100000
set_option maxHeartbeats 16000000
namespace Go.Proofs.YtogdpojnbgeknaaGreatDoor
open Go.ChangeShapes Go.WideShapes Go.ChangeAt Go.RowKit
open Gen
open Lib (hid)
theorem m_L (t:Thr) (self:Int) (i:In4) (fa la:Option Addr) (fn fc ln lc:Nat) (w:World) (ha:0≤i.2.1∧i.2.1≤7) (hb:0≤i.2.2.1∧i.2.2.1≤7) (hc:0≤i.2.2.2∧i.2.2.2≤7) (hp:0≤t.pc∧t.pc≤1000) :
  Calls Tryz.prog 138 #[.agg (tkC t fa fn fc la ln lc self i).toArray] w (i_2 (c_Z t i.2.1 (bits .xor .i64 (rgt t i.2.2.1) (rgt t i.2.2.2))) fa la fn fc ln lc 0 w):=by
 obtain ⟨z,hz⟩:=mn (c_Z t i.2.1 (bits .xor .i64 (rgt t i.2.2.1) (rgt t i.2.2.2)));rw [hz];obtain ⟨cs,hcs⟩:∃ cs:List Value,cs=(tkC t fa fn fc la ln lc self i):=⟨_,rfl⟩;obtain ⟨zs,hzs⟩:∃ zs:List Value,zs=thC z fa fn fc la ln lc:=⟨_,rfl⟩;obtain ⟨W,hW,X,R,hB⟩:=N81;have HCA:=hid (d_z hcs);have HCN:=N47;have HCI:=N22;have HZA:=N34;have HZN:=N62;have HZI:=N17;have ⟨HCS,HZS,HX,HR,HB,HW,HZ,HP,Ha,Hb,Hc⟩:=hh11 hcs hzs X R hB hW hz hp ha hb hc;clear hW X R hB hz hp hcs hzs ha hb hc
 go_enter Tryz.func138,Tryz.ntmps138
 go_upto_region 1 with fail
 rw [←HW.out];refine e_s [some 4,some 5,some 6,some 7,some 8,some 9,some 10,some 11,some 12,none,some 3] (OpB w cs) (VL [.agg cs.toArray,.agg cs.toArray,.int .i64 (rgt t i.2.2.1),.agg cs.toArray,.int .i64 (rgt t i.2.2.2),.int .i64 (bits .xor .i64 (rgt t i.2.2.1) (rgt t i.2.2.2)),.tuple #[.agg zs.toArray,.int .i64 0],.agg zs.toArray,.int .i64 0,undef,.int .i64 0] 9 (fun w'=>a_p w' (w.heap.size+1) zs)) (by kernel_rfl) (by kernel_rfl) (by decide) rfl ⟨HB.out.drew,b_J HX.out,_,b_J HR.out,rfl⟩ ?_ ?_
 ·show StepsL _ _ _ _ _ _ _
  refine InvV.cons rfl rfl rfl rfl (fun a1 vals w1 C K hK=>?_) ?_
  ·exact J3
  refine InvV.cons rfl rfl rfl rfl (fun a1 vals w1 C K hK=>?_) ?_
  ·exact J3
  refine InvV.cons rfl rfl rfl rfl (fun a1 vals w1 C K hK=>?_) ?_
  ·exact J13
  refine InvV.cons rfl rfl rfl rfl (fun a1 vals w1 C K hK=>?_) ?_
  ·exact J3
  refine InvV.cons rfl rfl rfl rfl (fun a1 vals w1 C K hK=>?_) ?_
  ·have e0:=N118;have h0:=N146;rw [←HCA.out] at h0;refine a_g rfl (a_O _ _ _ rfl 156 rfl [.agg cs.toArray] (by simp [e0]) (by kernel_rfl) (h0.mono ?_));rintro e w2 ⟨rfl,hb2⟩;exact J23
  refine InvV.cons rfl rfl rfl rfl (fun a1 vals w1 C K hK=>?_) ?_
  ·have e0:=N55;have e1:=N95;refine a_g rfl (a_x (v:=.int .i64 (bits .xor .i64 (rgt t i.2.2.1) (rgt t i.2.2.2))) ?_ (a_J hK C rfl rfl));simp [execOp,go_sem,e0,e1]
  refine InvV.cons rfl rfl rfl rfl (fun a1 vals w1 C K hK=>?_) ?_
  ·have e0:=N39;have e1:a1.eval (.tmp 9)=.int .i64 (bits .xor .i64 (rgt t i.2.2.1) (rgt t i.2.2.2)):=got C 5 9 rfl rfl rfl rfl;have h0:=b_n t self i (bits .xor .i64 (rgt t i.2.2.1) (rgt t i.2.2.2)) fa la fn fc ln lc w1 Ha.out HP.out;rw [HZ.out,←HCA.out] at h0;refine a_g rfl (a_O _ _ _ rfl 154 rfl [.agg cs.toArray,.int .i64 (bits .xor .i64 (rgt t i.2.2.1) (rgt t i.2.2.2))] (by simp [e0,e1]) (by kernel_rfl) (h0.mono ?_));rintro e w2 ⟨he,hb2⟩;rw [←HZA.out] at he;subst he;exact J23
  exact J2
 ·intro vals w1 hb hv;have e3:=N249;have HR1:=N136;exact J6
theorem k_H (t:Thr) (self:Int) (i:In4) (fa la:Option Addr) (fn fc ln lc:Nat) (w:World) (ha:0≤i.2.1∧i.2.1≤7) (hp:0≤t.pc∧t.pc≤1000) :
  Calls Tryz.prog 141 #[.agg (tkC t fa fn fc la ln lc self i).toArray] w (i_2 (brT t (rgt t i.2.1==0) i.2.2.1) fa la fn fc ln lc 0 w):=by
 obtain ⟨z,hz⟩:=mn (brT t (rgt t i.2.1==0) i.2.2.1);rw [hz];obtain ⟨cs,hcs⟩:∃ cs:List Value,cs=(tkC t fa fn fc la ln lc self i):=⟨_,rfl⟩;obtain ⟨zs,hzs⟩:∃ zs:List Value,zs=thC z fa fn fc la ln lc:=⟨_,rfl⟩;obtain ⟨W,hW,X,R,hB⟩:=N81;have HCA:=hid (d_z hcs);have HCN:=N47;have HCI:=N22;have HZA:=N34;have HZN:=N62;have HZI:=N17;have ⟨HCS,HZS,HX,HR,HB,HW,HZ,HP,Ha⟩:=hh9 hcs hzs X R hB hW hz hp ha;clear hW X R hB hz hp hcs hzs ha
 go_enter Tryz.func141,Tryz.ntmps141
 go_upto_region 1 with fail
 rw [←HW.out];refine e_s [some 4,some 5,some 6,some 7,some 8,some 9,some 10,none,some 3] (OpB w cs) (VL [.agg cs.toArray,.agg cs.toArray,.int .i64 (rgt t i.2.1),.bool (rgt t i.2.1==0),.tuple #[.agg zs.toArray,.int .i64 0],.agg zs.toArray,.int .i64 0,undef,.int .i64 0] 7 (fun w'=>a_p w' (w.heap.size+1) zs)) (by kernel_rfl) (by kernel_rfl) (by decide) rfl ⟨HB.out.drew,b_J HX.out,_,b_J HR.out,rfl⟩ ?_ ?_
 ·show StepsL _ _ _ _ _ _ _
  refine InvV.cons rfl rfl rfl rfl (fun a1 vals w1 C K hK=>?_) ?_
  ·exact J3
  refine InvV.cons rfl rfl rfl rfl (fun a1 vals w1 C K hK=>?_) ?_
  ·exact J3
  refine InvV.cons rfl rfl rfl rfl (fun a1 vals w1 C K hK=>?_) ?_
  ·have e0:a1.eval (.tmp 5)=.agg cs.toArray:=got C 1 5 rfl rfl rfl rfl;have h0:=l_N t self i fa la fn fc ln lc w1 Ha.out;rw [←HCA.out] at h0;refine a_g rfl (a_O _ _ _ rfl 159 rfl [.agg cs.toArray] (by simp [e0]) (by kernel_rfl) (h0.mono ?_));rintro e w2 ⟨rfl,hb2⟩;exact J23
  refine InvV.cons rfl rfl rfl rfl (fun a1 vals w1 C K hK=>?_) ?_
  ·have e0:=N201;refine a_g rfl (a_x (v:=.bool (rgt t i.2.1==0)) ?_ (a_J hK C rfl rfl));simp [execOp,go_sem,e0]
  refine InvV.cons rfl rfl rfl rfl (fun a1 vals w1 C K hK=>?_) ?_
  ·have e0:=N39;have e1:a1.eval (.tmp 7)=.bool (rgt t i.2.1==0):=got C 3 7 rfl rfl rfl rfl;have h0:=e_P t self i (rgt t i.2.1==0) fa la fn fc ln lc w1 HP.out;rw [HZ.out,←HCA.out] at h0;refine a_g rfl (a_O _ _ _ rfl 158 rfl [.agg cs.toArray,.bool (rgt t i.2.1==0)] (by simp [e0,e1]) (by kernel_rfl) (h0.mono ?_));rintro e w2 ⟨he,hb2⟩;rw [←HZA.out] at he;subst he;exact J23
  refine InvV.cons rfl rfl rfl rfl (fun a1 vals w1 C K hK=>?_) ?_
  ·have e0:=N76;exact J38
  refine InvV.cons rfl rfl rfl rfl (fun a1 vals w1 C K hK=>?_) ?_
  ·have e0:=N76;exact J21
  refine InvV.cons rfl rfl rfl rfl (fun a1 vals w1 C K hK=>?_) ?_
  ·have e0:a1.eval (.tmp 9)=.agg zs.toArray:=got C 5 9 rfl rfl rfl rfl;exact J7
  refine InvV.cons rfl rfl rfl rfl (fun a1 vals w1 C K hK=>?_) ?_
  ·have e0:=N228;exact J21
  exact StepsL.nil
 ·intro vals w1 hb hv;have e3:=h_I (hv 8 (by decide)) rfl;have HR1:=hid (show a_p w1 (w.heap.size+1) zs from hv 7 (by decide));exact J6
theorem k_F (t:Thr) (self:Int) (i:In4) (fa la:Option Addr) (fn fc ln lc:Nat) (w:World) (ha:0≤i.2.1∧i.2.1≤7) (hp:0≤t.pc∧t.pc≤1000) :
  Calls Tryz.prog 142 #[.agg (tkC t fa fn fc la ln lc self i).toArray] w (i_2 (brT t (rgt t i.2.1 != 0) i.2.2.1) fa la fn fc ln lc 0 w):=by
 obtain ⟨z,hz⟩:=mn (brT t (rgt t i.2.1 != 0) i.2.2.1);rw [hz];obtain ⟨cs,hcs⟩:∃ cs:List Value,cs=(tkC t fa fn fc la ln lc self i):=⟨_,rfl⟩;obtain ⟨zs,hzs⟩:∃ zs:List Value,zs=thC z fa fn fc la ln lc:=⟨_,rfl⟩;obtain ⟨W,hW,X,R,hB⟩:=N81;have HCA:=hid (d_z hcs);have HCN:=N47;have HCI:=N22;have HZA:=N34;have HZN:=N62;have HZI:=N17;have ⟨HCS,HZS,HX,HR,HB,HW,HZ,HP,Ha⟩:=hh9 hcs hzs X R hB hW hz hp ha;clear hW X R hB hz hp hcs hzs ha
 go_enter Tryz.func142,Tryz.ntmps142
 go_upto_region 1 with fail
 rw [←HW.out];refine e_s [some 4,some 5,some 6,some 7,some 8,some 9,some 10,none,some 3] (OpB w cs) (VL [.agg cs.toArray,.agg cs.toArray,.int .i64 (rgt t i.2.1),.bool (rgt t i.2.1 != 0),.tuple #[.agg zs.toArray,.int .i64 0],.agg zs.toArray,.int .i64 0,undef,.int .i64 0] 7 (fun w'=>a_p w' (w.heap.size+1) zs)) (by kernel_rfl) (by kernel_rfl) (by decide) rfl ⟨HB.out.drew,b_J HX.out,_,b_J HR.out,rfl⟩ ?_ ?_
 ·show StepsL _ _ _ _ _ _ _
  refine InvV.cons rfl rfl rfl rfl (fun a1 vals w1 C K hK=>?_) ?_
  ·exact J3
  refine InvV.cons rfl rfl rfl rfl (fun a1 vals w1 C K hK=>?_) ?_
  ·exact J3
  refine InvV.cons rfl rfl rfl rfl (fun a1 vals w1 C K hK=>?_) ?_
  ·have e0:a1.eval (.tmp 5)=.agg cs.toArray:=got C 1 5 rfl rfl rfl rfl;have h0:=l_N t self i fa la fn fc ln lc w1 Ha.out;rw [←HCA.out] at h0;refine a_g rfl (a_O _ _ _ rfl 159 rfl [.agg cs.toArray] (by simp [e0]) (by kernel_rfl) (h0.mono ?_));rintro e w2 ⟨rfl,hb2⟩;exact J23
  refine InvV.cons rfl rfl rfl rfl (fun a1 vals w1 C K hK=>?_) ?_
  ·have e0:=N201;refine a_g rfl (a_x (v:=.bool (rgt t i.2.1 != 0)) ?_ (a_J hK C rfl rfl));simp [execOp,go_sem,e0]
  refine InvV.cons rfl rfl rfl rfl (fun a1 vals w1 C K hK=>?_) ?_
  ·have e0:=N39;have e1:a1.eval (.tmp 7)=.bool (rgt t i.2.1 != 0):=got C 3 7 rfl rfl rfl rfl;have h0:=e_P t self i (rgt t i.2.1 != 0) fa la fn fc ln lc w1 HP.out;rw [HZ.out,←HCA.out] at h0;refine a_g rfl (a_O _ _ _ rfl 158 rfl [.agg cs.toArray,.bool (rgt t i.2.1 != 0)] (by simp [e0,e1]) (by kernel_rfl) (h0.mono ?_));rintro e w2 ⟨he,hb2⟩;rw [←HZA.out] at he;subst he;exact J23
  refine InvV.cons rfl rfl rfl rfl (fun a1 vals w1 C K hK=>?_) ?_
  ·have e0:=N76;exact J38
  refine InvV.cons rfl rfl rfl rfl (fun a1 vals w1 C K hK=>?_) ?_
  ·have e0:=N76;exact J21
  refine InvV.cons rfl rfl rfl rfl (fun a1 vals w1 C K hK=>?_) ?_
  ·have e0:a1.eval (.tmp 9)=.agg zs.toArray:=got C 5 9 rfl rfl rfl rfl;exact J7
  refine InvV.cons rfl rfl rfl rfl (fun a1 vals w1 C K hK=>?_) ?_
  ·have e0:=N228;exact J21
  exact StepsL.nil
 ·intro vals w1 hb hv;have e3:=h_I (hv 8 (by decide)) rfl;have HR1:=hid (show a_p w1 (w.heap.size+1) zs from hv 7 (by decide));exact J6
theorem m_c {w:World} {g:Nat} {t:Thr} {self:Int} {i:In4} {fa la:Option Addr} {fn fc ln lc:Nat} (h:a_p w g (tkC t fa fn fc la ln lc self i)):a_p w g (thC t fa fn fc la ln lc):=fun j v hj=>h j v (by
 rw [←hj];have:j < 13:=by have:=(List.getElem?_eq_some_iff.1 hj).1;simpa using this
 rcases (show j=0∨j=1∨j=2∨j=3∨j=4∨j=5∨j=6∨j=7∨j=8∨j=9∨j=10∨j=11∨j=12 by omega) with rfl | rfl | rfl | rfl | rfl | rfl | rfl | rfl | rfl | rfl | rfl | rfl | rfl <;> rfl)
theorem m_J (t:Thr) (self:Int) (i:In4) (fa la:Option Addr) (fn fc ln lc:Nat) (w:World) (ha:0≤i.2.1∧i.2.1≤7) (hp:0≤t.pc∧t.pc≤1000) :
  Calls Tryz.prog 131 #[.agg (tkC t fa fn fc la ln lc self i).toArray] w (i_2 (c_Z t i.2.1 i.2.2.1) fa la fn fc ln lc 0 w):=by
 obtain ⟨z,hz⟩:=mn (c_Z t i.2.1 i.2.2.1);rw [hz];obtain ⟨W,hW⟩:=nm ((w.alloc (Obj.cells (tkC t fa fn fc la ln lc self i).toArray 168)).alloc (Obj.cells thN.toArray 46));have X:=N18;have R:=N14;have hB:=N2;have ⟨HX,HR,HB,HW,HZ,HP,Ha⟩:=hh7 X R hB hW hz hp ha;clear hW X R hB hz hp ha
 go_enter Tryz.func131,Tryz.ntmps131
 go_upto_region 1 with fail
 rw [←HW.out];have k16:=(HX.out 16 _ rfl).1
 go_wp2_with (refine wpList_load_mid rfl 168 _ rfl w.heap.size 0 rfl (tkC t fa fn fc la ln lc self i) _ (a_f HX.out) Tryz.underlying168 rfl (by kernel_rfl) ?_)
 have h0:=b_n t self i i.2.2.1 fa la fn fc ln lc W Ha.out HP.out;rw [HZ.out] at h0;refine h0.mono ?_;clear h0;rintro e w9 ⟨rfl,hb1⟩;have HB9:=hid (a_b HB.out hb1);have HR9:=hid (a_i hb1 HR.out);clear hb1 k16;exact J25
theorem k_G (t:Thr) (self:Int) (i:In4) (fa la:Option Addr) (fn fc ln lc:Nat) (w:World) (ha:0≤i.2.1∧i.2.1≤7) (hp:0≤t.pc∧t.pc≤1000) :
  Calls Tryz.prog 145 #[.agg (tkC t fa fn fc la ln lc self i).toArray] w (i_2 (c_Z t i.2.1 self) fa la fn fc ln lc 0 w):=by
 obtain ⟨z,hz⟩:=mn (c_Z t i.2.1 self);rw [hz];obtain ⟨W,hW⟩:=nm ((w.alloc (Obj.cells (tkC t fa fn fc la ln lc self i).toArray 168)).alloc (Obj.cells thN.toArray 46));have X:=N18;have R:=N14;have hB:=N2;have ⟨HX,HR,HB,HW,HZ,HP,Ha⟩:=hh7 X R hB hW hz hp ha;clear hW X R hB hz hp ha
 go_enter Tryz.func145,Tryz.ntmps145
 go_upto_region 1 with fail
 rw [←HW.out];have k13:=(HX.out 13 _ rfl).1
 go_wp2_with (refine wpList_load_mid rfl 168 _ rfl w.heap.size 0 rfl (tkC t fa fn fc la ln lc self i) _ (a_f HX.out) Tryz.underlying168 rfl (by kernel_rfl) ?_)
 have h0:=b_n t self i self fa la fn fc ln lc W Ha.out HP.out;rw [HZ.out] at h0;refine h0.mono ?_;clear h0;rintro e w9 ⟨rfl,hb1⟩;have HB9:=hid (a_b HB.out hb1);have HR9:=hid (a_i hb1 HR.out);clear hb1 k13;exact J25
theorem k_A (t:Thr) (self:Int) (i:In4) (fa la:Option Addr) (fn fc ln lc:Nat) (w:World)  (hp:0≤t.pc∧t.pc≤1000) :
  Calls Tryz.prog 140 #[.agg (tkC t fa fn fc la ln lc self i).toArray] w (i_2 (goT t i.2.1) fa la fn fc ln lc 0 w):=by
 obtain ⟨z,hz⟩:=mn (goT t i.2.1);rw [hz];obtain ⟨W,hW⟩:=nm ((w.alloc (Obj.cells (tkC t fa fn fc la ln lc self i).toArray 168)).alloc (Obj.cells thN.toArray 46));have X:=N18;have R:=N14;have hB:=N2;have ⟨HX,HR,HB,HW,HZ,HP⟩:=hh6 X R hB hW hz hp;clear hW X R hB hz hp
 go_enter Tryz.func140,Tryz.ntmps140
 go_upto_region 1 with fail
 rw [←HW.out];have k15:=(HX.out 15 _ rfl).1
 go_wp2_with (refine wpList_load_mid rfl 168 _ rfl w.heap.size 0 rfl (tkC t fa fn fc la ln lc self i) _ (a_f HX.out) Tryz.underlying168 rfl (by kernel_rfl) ?_)
 have h0:=d_x t self i i.2.1 fa la fn fc ln lc W;rw [HZ.out] at h0;refine h0.mono ?_;clear h0;rintro e w9 ⟨rfl,hb1⟩;have HB9:=hid (a_b HB.out hb1);have HR9:=hid (a_i hb1 HR.out);clear hb1 k15;exact J25
inductive Inv_less (t:Thr) (i:In4) (cs zs:List Value) (g:Nat) (a0:Act) (w0:World) (listed:Array Bool) (act':Act) (w':World):Prop
 | mk (p4 p5 p6 p7 p8:Value) (xs:List Value) (ea:act'=(((((a0.put (some 4) p4).put (some 5) p5).put (some 6) p6).put (some 7) p7).put (some 8) p8)) (hb:Below g w0 w'∧a_p w' g cs∧a_p w' (g+1) xs∧xs.length=13) (hf0:Up listed 0→p4=.agg cs.toArray) (hf1:Up listed 1→p5=.int .i64 (rgt t i.2.2.1)) (hf2:Up listed 2→p6=.agg cs.toArray) (hf3:Up listed 3→p7=.int .i64 (rgt t i.2.2.2)) (hf4:Up listed 4→p8=.bool (decide (rgt t i.2.2.1 < rgt t i.2.2.2))):Inv_less t i cs zs g a0 w0 listed act' w'
theorem k_B (t:Thr) (self:Int) (i:In4) (fa la:Option Addr) (fn fc ln lc:Nat) (w:World) (ha:0≤i.2.1∧i.2.1≤7) (hb:0≤i.2.2.1∧i.2.2.1≤7) (hc:0≤i.2.2.2∧i.2.2.2≤7) (hp:0≤t.pc∧t.pc≤1000) :
  Calls Tryz.prog 139 #[.agg (tkC t fa fn fc la ln lc self i).toArray] w (i_2 (c_Z t i.2.1 (if rgt t i.2.2.1 < rgt t i.2.2.2 then 1 else 0)) fa la fn fc ln lc 0 w):=by
 obtain ⟨z,hz⟩:=mn (c_Z t i.2.1 (if rgt t i.2.2.1 < rgt t i.2.2.2 then 1 else 0));rw [hz];obtain ⟨W,hW⟩:=nm ((w.alloc (Obj.cells (tkC t fa fn fc la ln lc self i).toArray 168)).alloc (Obj.cells thN.toArray 46));obtain ⟨cs,hcs⟩:∃ cs:List Value,cs=(tkC t fa fn fc la ln lc self i):=⟨_,rfl⟩;obtain ⟨zs,hzs⟩:∃ zs:List Value,zs=(thC z fa fn fc la ln lc):=⟨_,rfl⟩;have X:a_p W w.heap.size cs:=by rw [hW,hcs];exact a_s _ (a_e (tkC t fa fn fc la ln lc self i) _ rfl)
 have R:=N14;have hB:=N2;have HCA:=hid (show cs.toArray=(tkC t fa fn fc la ln lc self i).toArray by rw [hcs]);have HCN:=hid (show 0 < cs.length by rw [hcs];simp);have HCI:=N22;have HZA:=N34;have HZN:=N62;have HZI:=N17;have ⟨HCS,HZS,HX,HR,HB,HW,HZ,HP,Ha,Hb,Hc⟩:=hh11 hcs hzs X R hB hW hz hp ha hb hc;clear hW X R hB hz hp hcs hzs ha hb hc
 go_enter Tryz.func139,Tryz.ntmps139
 go_upto_region 1 with fail
 rw [←HW.out];refine b_s (Inv_less t i cs zs w.heap.size) (by kernel_rfl) (by kernel_rfl) ?_ ?_ ?_
 ·intro listed hl;exact .mk undef undef undef undef undef thN (by simp only [Act.put,sA,sB,sC]) (⟨(Below.refl _ _).drew,b_J HX.out,b_J HR.out,rfl⟩) (fun h=>absurd h (hl 0 (by decide))) (fun h=>absurd h (hl 1 (by decide))) (fun h=>absurd h (hl 2 (by decide))) (fun h=>absurd h (hl 3 (by decide))) (fun h=>absurd h (hl 4 (by decide)))
 ·show StepsL _ _ _ _ _ _ _
  refine StepsL.cons (k:=0) rfl (fun listed a1 w1 hI hn hw K hK=>?_) ?_
  ·cases hI with | mk p4 p5 p6 p7 p8 xs ea hb hf0 hf1 hf2 hf3 hf4 =>
    have Hhb:=hid hb;have HH_:=hid (cj hf0<|cj hf1<|cj hf2<|cj hf3<|cj hf4<|hw);clear hf0 hf1 hf2 hf3 hf4 hb hw;rw [ea];clear ea;simp only [Act.put,sA,sB,sC];refine c_F (by rfl) ?_;refine wp_load_mid 168 _ rfl w.heap.size 0 rfl cs _ (a_f Hhb.out.2.1) Tryz.underlying168 rfl HCI.out ?_;obtain ⟨hf0,hf1,hf2,hf3,hf4,hw⟩:=HH_.out;have hb:=Hhb.out;refine hK.out _ _ ?_;exact .mk (.agg cs.toArray) p5 p6 p7 p8 xs (by simp only [Act.put,sA,sB,sC]) (hb) (fun _=>rfl) (upk hf1 rfl) (upk hf2 rfl) (upk hf3 rfl) (upk hf4 rfl)
  refine StepsL.cons (k:=1) rfl (fun listed a1 w1 hI hn hw K hK=>?_) ?_
  ·cases hI with | mk p4 p5 p6 p7 p8 xs ea hb hf0 hf1 hf2 hf3 hf4 =>
    have e_f0:=hf0 (hw 0 (by decide));subst e_f0;have HH_:=N196;clear hf0 hf1 hf2 hf3 hf4 hb hw;rw [ea];clear ea;simp only [Act.put,sA,sB,sC];have h0:=d_Y t self i fa la fn fc ln lc w1 Hb.out;rw [←HCA.out] at h0;refine c_F (by rfl) ?_;refine a_O _ _ _ rfl 155 rfl [.agg cs.toArray] rfl (by kernel_rfl) (h0.mono ?_);rintro e w2 ⟨rfl,hb2⟩;refine ⟨_,rfl,?_⟩;obtain ⟨hf0,hf1,hf2,hf3,hf4,hb,hw⟩:=HH_.out;refine hK.out _ _ ?_;exact .mk (.agg cs.toArray) (.int .i64 (rgt t i.2.2.1)) p6 p7 p8 xs (by simp only [Act.put,sA,sB,sC]) (o_1 hb hb2 HCN.out) (fun _=>rfl) (fun _=>rfl) (upk hf2 rfl) (upk hf3 rfl) (upk hf4 rfl)
  refine StepsL.cons (k:=2) rfl (fun listed a1 w1 hI hn hw K hK=>?_) ?_
  ·cases hI with | mk p4 p5 p6 p7 p8 xs ea hb hf0 hf1 hf2 hf3 hf4 =>
    have Hhb:=hid hb;have HH_:=hid (cj hf0<|cj hf1<|cj hf2<|cj hf3<|cj hf4<|hw);clear hf0 hf1 hf2 hf3 hf4 hb hw;rw [ea];clear ea;simp only [Act.put,sA,sB,sC];refine c_F (by rfl) ?_;refine wp_load_mid 168 _ rfl w.heap.size 0 rfl cs _ (a_f Hhb.out.2.1) Tryz.underlying168 rfl HCI.out ?_;obtain ⟨hf0,hf1,hf2,hf3,hf4,hw⟩:=HH_.out;have hb:=Hhb.out;refine hK.out _ _ ?_;exact .mk p4 p5 (.agg cs.toArray) p7 p8 xs (by simp only [Act.put,sA,sB,sC]) (hb) (upk hf0 rfl) (upk hf1 rfl) (fun _=>rfl) (upk hf3 rfl) (upk hf4 rfl)
  refine StepsL.cons (k:=3) rfl (fun listed a1 w1 hI hn hw K hK=>?_) ?_
  ·cases hI with | mk p4 p5 p6 p7 p8 xs ea hb hf0 hf1 hf2 hf3 hf4 =>
    have e_f2:=hf2 (hw 2 (by decide));subst e_f2;have HH_:=N196;clear hf0 hf1 hf2 hf3 hf4 hb hw;rw [ea];clear ea;simp only [Act.put,sA,sB,sC];have h0:=N146;rw [←HCA.out] at h0;refine c_F (by rfl) ?_;refine a_O _ _ _ rfl 156 rfl [.agg cs.toArray] rfl (by kernel_rfl) (h0.mono ?_);rintro e w2 ⟨rfl,hb2⟩;refine ⟨_,rfl,?_⟩;obtain ⟨hf0,hf1,hf2,hf3,hf4,hb,hw⟩:=HH_.out;refine hK.out _ _ ?_;exact .mk p4 p5 (.agg cs.toArray) (.int .i64 (rgt t i.2.2.2)) p8 xs (by simp only [Act.put,sA,sB,sC]) (o_1 hb hb2 HCN.out) (upk hf0 rfl) (upk hf1 rfl) (fun _=>rfl) (fun _=>rfl) (upk hf4 rfl)
  refine StepsL.cons (k:=4) rfl (fun listed a1 w1 hI hn hw K hK=>?_) ?_
  ·cases hI with | mk p4 p5 p6 p7 p8 xs ea hb hf0 hf1 hf2 hf3 hf4 =>
    have e_f1:=hf1 (hw 1 (by decide));have e_f3:=hf3 (hw 3 (by decide));subst e_f1 e_f3;have HH_:=N196;clear hf0 hf1 hf2 hf3 hf4 hb hw;rw [ea];clear ea;simp only [Act.put,sA,sB,sC]
    go_simp
    obtain ⟨hf0,hf1,hf2,hf3,hf4,hb,hw⟩:=HH_.out;refine hK.out _ _ ?_;exact .mk p4 (.int .i64 (rgt t i.2.2.1)) p6 (.int .i64 (rgt t i.2.2.2)) (.bool (decide (rgt t i.2.2.1 < rgt t i.2.2.2))) xs (by simp only [Act.put,sA,sB,sC]) (hb) (upk hf0 rfl) (fun _=>rfl) (upk hf2 rfl) (fun _=>rfl) (fun _=>rfl)
  exact StepsL.nil
 ·intro listed a1 w1 hI hu
  cases hI with | mk p4 p5 p6 p7 p8 xs ea hb hf0 hf1 hf2 hf3 hf4 =>
   have e8:=hf4 (hu 4);subst e8;have HB1:=hid (HB.out.trans hb.1);have HX1:=hid (HCS.out▸hb.2.1);have HL1:=hb.2.2.2;have HR1:=hid hb.2.2.1;clear hf0 hf1 hf2 hf3 hf4 hb hu HX HR HB HW;rw [ea];clear ea;simp only [Act.put,sA,sB,sC]
   match xs,HL1,HR1 with
   | [x0,x1,x2,x3,x4,x5,x6,x7,x8,x9,x10,x11,x12],_,HR1 =>
    by_cases hlt:rgt t i.2.2.1 < rgt t i.2.2.2
    ·have hd:decide (rgt t i.2.2.1 < rgt t i.2.2.2)=true:=decide_eq_true hlt;rw [if_pos hlt] at HZ;rw [hd];clear hlt hd
     go_wp2_with (refine wpList_load_mid rfl 168 _ rfl w.heap.size 0 rfl (tkC t fa fn fc la ln lc self i) _ (a_f HX1.out) Tryz.underlying168 rfl (by kernel_rfl) ?_)
     have h0:=b_n t self i 1 fa la fn fc ln lc w1 Ha.out HP.out;rw [HZ.out] at h0;refine h0.mono ?_;clear h0;rintro e w9 ⟨rfl,hb1⟩;have HB9:=hid (a_b HB1.out hb1);have HR9:=hid (a_i hb1 HR1.out);clear hb1;exact J25
    ·have hd:decide (rgt t i.2.2.1 < rgt t i.2.2.2)=false:=decide_eq_false hlt;rw [if_neg hlt] at HZ;rw [hd];clear hlt hd
     go_wp2_with (refine wpList_load_mid rfl 168 _ rfl w.heap.size 0 rfl (tkC t fa fn fc la ln lc self i) _ (a_f HX1.out) Tryz.underlying168 rfl (by kernel_rfl) ?_)
     have h0:=b_n t self i 0 fa la fn fc ln lc w1 Ha.out HP.out;rw [HZ.out] at h0;refine h0.mono ?_;clear h0;rintro e w9 ⟨rfl,hb1⟩;have HB9:=hid (a_b HB1.out hb1);have HR9:=hid (a_i hb1 HR1.out);clear hb1;exact J25
theorem k_z (t:Thr) (self:Int) (i:In4) (fa la:Option Addr) (fn fc ln lc:Nat) (w:World)  (F:ThF w fa fn fc la ln lc t) :
  Calls Tryz.prog 143 #[.agg (tkC t fa fn fc la ln lc self i).toArray] w (ThPostF (f_d t i.2.1) (d_w t i.2.1) w):=by
 obtain ⟨z,hz⟩:=mn (f_d t i.2.1);obtain ⟨x,hx⟩:=mn (d_w t i.2.1);rw [hz,hx];have HXE:=hid hx;clear hx;obtain ⟨W,hW⟩:=nm ((w.alloc (Obj.cells (tkC t fa fn fc la ln lc self i).toArray 168)).alloc (Obj.cells thN.toArray 46));have X:=N18;have R:=N14;have hB:=N2;have ⟨HX,HR,HB,HW,HZ⟩:=hh5 X R hB hW hz;have HZW:=N43;have HBW:=hid (show Below w.heap.size w W from hB);replace F:=hid F;clear hW X R hB hz
 go_enter Tryz.func143,Tryz.ntmps143
 go_upto_region 1 with fail
 rw [←HW.out];have k15:=(HX.out 15 _ rfl).1
 go_wp2_with (refine wpList_load_mid rfl 46 _ rfl w.heap.size 0 rfl (thC t fa fn fc la ln lc) _ (a_f (m_c HX.out)) Tryz.underlying46 rfl (by kernel_rfl) ?_)
 have h0:=k_s t i.2.1 fa la fn fc ln lc W (d_a HBW.out F.out);rw [HZ.out,HXE.out] at h0;refine h0.mono ?_;clear h0;rintro e w1 ⟨fa1,fc1,la1,lc1,rfl,Q1,hb1⟩;obtain ⟨fn1,hfn⟩:=mn (z.fs.length);obtain ⟨ln1,hln⟩:=mn (z.lf.length);rw [hfn,hln] at Q1 ⊢;rw [HZW.out] at Q1;have HQ:=hid Q1;have HB9:=hid (a_b HB.out hb1);have HR9:=hid (a_i hb1 HR.out);have HN:=hid (And.intro hfn hln);have HS:=hid hb1.size;clear hb1 Q1 hfn hln k15;exact J52
theorem m_I (t:Thr) (self:Int) (i:In4) (fa la:Option Addr) (fn fc ln lc:Nat) (w:World)  (F:ThF w fa fn fc la ln lc t) :
  Calls Tryz.prog 144 #[.agg (tkC t fa fn fc la ln lc self i).toArray] w (ThPostF (f_0 t) (e_g t) w):=by
 obtain ⟨z,hz⟩:=mn (f_0 t);obtain ⟨x,hx⟩:=mn (e_g t);rw [hz,hx];have HXE:=hid hx;clear hx;obtain ⟨W,hW⟩:=nm ((w.alloc (Obj.cells (tkC t fa fn fc la ln lc self i).toArray 168)).alloc (Obj.cells thN.toArray 46));have X:=N18;have R:=N14;have hB:=N2;have ⟨HX,HR,HB,HW,HZ⟩:=hh5 X R hB hW hz;have HZW:=N43;have HBW:=hid (show Below w.heap.size w W from hB);replace F:=hid F;clear hW X R hB hz
 go_enter Tryz.func144,Tryz.ntmps144
 go_upto_region 1 with fail
 rw [←HW.out]
 go_wp2_with (refine wpList_load_mid rfl 46 _ rfl w.heap.size 0 rfl (thC t fa fn fc la ln lc) _ (a_f (m_c HX.out)) Tryz.underlying46 rfl (by kernel_rfl) ?_)
 have h0:=k_r t fa la fn fc ln lc W (d_a HBW.out F.out);rw [HZ.out,HXE.out] at h0;refine h0.mono ?_;clear h0;rintro e w1 ⟨fa1,fc1,la1,lc1,rfl,Q1,hb1⟩;obtain ⟨fn1,hfn⟩:=mn (z.fs.length);obtain ⟨ln1,hln⟩:=mn (z.lf.length);rw [hfn,hln] at Q1 ⊢;rw [HZW.out] at Q1;have HQ:=hid Q1;have HB9:=hid (a_b HB.out hb1);have HR9:=hid (a_i hb1 HR.out);have HN:=hid (And.intro hfn hln);have HS:=hid hb1.size;clear hb1 Q1 hfn hln;exact J52
end Go.Proofs.YtogdpojnbgeknaaGreatDoor
