import Derived.Test.YtogdpojnbgeknaaGreatDoorB4
import Derived.Test.YtogdpojnbgeknaaGreatDoorB0
import Derived.Test.YtogdpojnbgeknaaGreatDoorB9
import Derived.Test.YtogdpojnbgeknaaGreatDoorB3
import Derived.Laws.AppendOwnNone
import Derived.Deep.QuietTactic
import Derived.BigQuiet
set_option maxRecDepth 100000
set_option maxHeartbeats 16000000
namespace Go.Proofs.YtogdpojnbgeknaaGreatDoor
open Go.ChangeShapes Go.WideShapes Go.ChangeAt Go.RowKit
open Gen
open Lib (hid)
theorem m_s {w:World} {g:Nat} {t:Thr} {self:Int} {i:In4} {fa la:Option Addr} {fn fc ln lc:Nat} (h:a_p w g (tkC t fa fn fc la ln lc self i)):a_p w g (thC t fa fn fc la ln lc):=fun j v hj=>h j v (by
 rw [←hj];have:j < 13:=by have:=(List.getElem?_eq_some_iff.1 hj).1;simpa using this
 rcases (show j=0∨j=1∨j=2∨j=3∨j=4∨j=5∨j=6∨j=7∨j=8∨j=9∨j=10∨j=11∨j=12 by omega) with rfl | rfl | rfl | rfl | rfl | rfl | rfl | rfl | rfl | rfl | rfl | rfl | rfl <;> rfl)
theorem m_X (t:Thr) (self:Int) (i:In4) (fa la:Option Addr) (fn fc ln lc:Nat) (w:World) (ha:0≤i.2.1∧i.2.1≤7) (hp:0≤t.pc∧t.pc≤1000) :
  Calls Tryz.prog 131 #[.agg (tkC t fa fn fc la ln lc self i).toArray] w (j_m (c_2 t i.2.1 i.2.2.1) fa la fn fc ln lc 0 w):=by
 obtain ⟨z,hz⟩:=mn (c_2 t i.2.1 i.2.2.1);rw [hz];obtain ⟨W,hW⟩:=nm ((w.alloc (Obj.cells (tkC t fa fn fc la ln lc self i).toArray 168)).alloc (Obj.cells thN.toArray 46));have X:=N18;have R:=N14;have hB:=N2;have ⟨HX,HR,HB,HW,HZ,HP,Ha⟩:=hh7 X R hB hW hz hp ha;clear hW X R hB hz hp ha
 go_enter Tryz.func131,Tryz.ntmps131
 go_upto_region 1 with fail
 rw [←HW.out];have k16:=(HX.out 16 _ rfl).1
 go_wp2_with (refine wpList_load_mid rfl 168 _ rfl w.heap.size 0 rfl (tkC t fa fn fc la ln lc self i) _ (a_f HX.out) Tryz.underlying168 rfl (by kernel_rfl) ?_)
 have h0:=b_o t self i i.2.2.1 fa la fn fc ln lc W Ha.out HP.out;rw [HZ.out] at h0;refine h0.mono ?_;clear h0;rintro e w9 ⟨rfl,hb1⟩;have HB9:=hid (a_a HB.out hb1);have HR9:=hid (a_h hb1 HR.out);clear hb1 k16;exact J26
theorem k_5 (t:Thr) (self:Int) (i:In4) (fa la:Option Addr) (fn fc ln lc:Nat) (w:World) (ha:0≤i.2.1∧i.2.1≤7) (hp:0≤t.pc∧t.pc≤1000) :
  Calls Tryz.prog 145 #[.agg (tkC t fa fn fc la ln lc self i).toArray] w (j_m (c_2 t i.2.1 self) fa la fn fc ln lc 0 w):=by
 obtain ⟨z,hz⟩:=mn (c_2 t i.2.1 self);rw [hz];obtain ⟨W,hW⟩:=nm ((w.alloc (Obj.cells (tkC t fa fn fc la ln lc self i).toArray 168)).alloc (Obj.cells thN.toArray 46));have X:=N18;have R:=N14;have hB:=N2;have ⟨HX,HR,HB,HW,HZ,HP,Ha⟩:=hh7 X R hB hW hz hp ha;clear hW X R hB hz hp ha
 go_enter Tryz.func145,Tryz.ntmps145
 go_upto_region 1 with fail
 rw [←HW.out];have k13:=(HX.out 13 _ rfl).1
 go_wp2_with (refine wpList_load_mid rfl 168 _ rfl w.heap.size 0 rfl (tkC t fa fn fc la ln lc self i) _ (a_f HX.out) Tryz.underlying168 rfl (by kernel_rfl) ?_)
 have h0:=b_o t self i self fa la fn fc ln lc W Ha.out HP.out;rw [HZ.out] at h0;refine h0.mono ?_;clear h0;rintro e w9 ⟨rfl,hb1⟩;have HB9:=hid (a_a HB.out hb1);have HR9:=hid (a_h hb1 HR.out);clear hb1 k13;exact J26
theorem k_Z (t:Thr) (self:Int) (i:In4) (fa la:Option Addr) (fn fc ln lc:Nat) (w:World)  (hp:0≤t.pc∧t.pc≤1000) :
  Calls Tryz.prog 140 #[.agg (tkC t fa fn fc la ln lc self i).toArray] w (j_m (goT t i.2.1) fa la fn fc ln lc 0 w):=by
 obtain ⟨z,hz⟩:=mn (goT t i.2.1);rw [hz];obtain ⟨W,hW⟩:=nm ((w.alloc (Obj.cells (tkC t fa fn fc la ln lc self i).toArray 168)).alloc (Obj.cells thN.toArray 46));have X:=N18;have R:=N14;have hB:=N2;have ⟨HX,HR,HB,HW,HZ,HP⟩:=hh6 X R hB hW hz hp;clear hW X R hB hz hp
 go_enter Tryz.func140,Tryz.ntmps140
 go_upto_region 1 with fail
 rw [←HW.out];have k15:=(HX.out 15 _ rfl).1
 go_wp2_with (refine wpList_load_mid rfl 168 _ rfl w.heap.size 0 rfl (tkC t fa fn fc la ln lc self i) _ (a_f HX.out) Tryz.underlying168 rfl (by kernel_rfl) ?_)
 have h0:=d_C t self i i.2.1 fa la fn fc ln lc W;rw [HZ.out] at h0;refine h0.mono ?_;clear h0;rintro e w9 ⟨rfl,hb1⟩;have HB9:=hid (a_a HB.out hb1);have HR9:=hid (a_h hb1 HR.out);clear hb1 k15;exact J26
inductive Inv_less (t:Thr) (i:In4) (cs zs:List Value) (g:Nat) (a0:Act) (w0:World) (listed:Array Bool) (act':Act) (w':World):Prop
 | mk (p4 p5 p6 p7 p8:Value) (xs:List Value) (ea:act'=(((((a0.put (some 4) p4).put (some 5) p5).put (some 6) p6).put (some 7) p7).put (some 8) p8)) (hb:Below g w0 w'∧a_p w' g cs∧a_p w' (g+1) xs∧xs.length=13) (hf0:Up listed 0→p4=.agg cs.toArray) (hf1:Up listed 1→p5=.int .i64 (rgt t i.2.2.1)) (hf2:Up listed 2→p6=.agg cs.toArray) (hf3:Up listed 3→p7=.int .i64 (rgt t i.2.2.2)) (hf4:Up listed 4→p8=.bool (decide (rgt t i.2.2.1 < rgt t i.2.2.2))):Inv_less t i cs zs g a0 w0 listed act' w'
theorem k_0 (t:Thr) (self:Int) (i:In4) (fa la:Option Addr) (fn fc ln lc:Nat) (w:World) (ha:0≤i.2.1∧i.2.1≤7) (hb:0≤i.2.2.1∧i.2.2.1≤7) (hc:0≤i.2.2.2∧i.2.2.2≤7) (hp:0≤t.pc∧t.pc≤1000) :
  Calls Tryz.prog 139 #[.agg (tkC t fa fn fc la ln lc self i).toArray] w (j_m (c_2 t i.2.1 (if rgt t i.2.2.1 < rgt t i.2.2.2 then 1 else 0)) fa la fn fc ln lc 0 w):=by
 obtain ⟨z,hz⟩:=mn (c_2 t i.2.1 (if rgt t i.2.2.1 < rgt t i.2.2.2 then 1 else 0));rw [hz];obtain ⟨W,hW⟩:=nm ((w.alloc (Obj.cells (tkC t fa fn fc la ln lc self i).toArray 168)).alloc (Obj.cells thN.toArray 46));obtain ⟨cs,hcs⟩:∃ cs:List Value,cs=(tkC t fa fn fc la ln lc self i):=⟨_,rfl⟩;obtain ⟨zs,hzs⟩:∃ zs:List Value,zs=(thC z fa fn fc la ln lc):=⟨_,rfl⟩;have X:a_p W w.heap.size cs:=by rw [hW,hcs];exact a_s _ (a_e (tkC t fa fn fc la ln lc self i) _ rfl)
 have R:=N14;have hB:=N2;have HCA:=hid (show cs.toArray=(tkC t fa fn fc la ln lc self i).toArray by rw [hcs]);have HCN:=hid (show 0 < cs.length by rw [hcs];simp);have HCI:=N22;have HZA:=N34;have HZN:=N63;have HZI:=N17;have ⟨HCS,HZS,HX,HR,HB,HW,HZ,HP,Ha,Hb,Hc⟩:=hh11 hcs hzs X R hB hW hz hp ha hb hc;clear hW X R hB hz hp hcs hzs ha hb hc
 go_enter Tryz.func139,Tryz.ntmps139
 go_upto_region 1 with fail
 rw [←HW.out];refine b_u (Inv_less t i cs zs w.heap.size) (by kernel_rfl) (by kernel_rfl) ?_ ?_ ?_
 ·intro listed hl;exact .mk undef undef undef undef undef thN (by simp only [Act.put,sA,sB,sC]) (⟨(Below.refl _ _).drew,b_K HX.out,b_K HR.out,rfl⟩) (fun h=>absurd h (hl 0 (by decide))) (fun h=>absurd h (hl 1 (by decide))) (fun h=>absurd h (hl 2 (by decide))) (fun h=>absurd h (hl 3 (by decide))) (fun h=>absurd h (hl 4 (by decide)))
 ·show StepsL _ _ _ _ _ _ _
  refine StepsL.cons (k:=0) rfl (fun listed a1 w1 hI hn hw K hK=>?_) ?_
  ·cases hI with | mk p4 p5 p6 p7 p8 xs ea hb hf0 hf1 hf2 hf3 hf4 =>
    have Hhb:=hid hb;have HH_:=hid (cj hf0<|cj hf1<|cj hf2<|cj hf3<|cj hf4<|hw);clear hf0 hf1 hf2 hf3 hf4 hb hw;rw [ea];clear ea;simp only [Act.put,sA,sB,sC];refine c_H (by rfl) ?_;refine wp_load_mid 168 _ rfl w.heap.size 0 rfl cs _ (a_f Hhb.out.2.1) Tryz.underlying168 rfl HCI.out ?_;obtain ⟨hf0,hf1,hf2,hf3,hf4,hw⟩:=HH_.out;have hb:=Hhb.out;refine hK.out _ _ ?_;exact .mk (.agg cs.toArray) p5 p6 p7 p8 xs (by simp only [Act.put,sA,sB,sC]) (hb) (fun _=>rfl) (upk hf1 rfl) (upk hf2 rfl) (upk hf3 rfl) (upk hf4 rfl)
  refine StepsL.cons (k:=1) rfl (fun listed a1 w1 hI hn hw K hK=>?_) ?_
  ·cases hI with | mk p4 p5 p6 p7 p8 xs ea hb hf0 hf1 hf2 hf3 hf4 =>
    have e_f0:=hf0 (hw 0 (by decide));subst e_f0;have HH_:=N199;clear hf0 hf1 hf2 hf3 hf4 hb hw;rw [ea];clear ea;simp only [Act.put,sA,sB,sC];have h0:=d_4 t self i fa la fn fc ln lc w1 Hb.out;rw [←HCA.out] at h0;refine c_H (by rfl) ?_;refine a_Q _ _ _ rfl 155 rfl [.agg cs.toArray] rfl (by kernel_rfl) (h0.mono ?_);rintro e w2 ⟨rfl,hb2⟩;refine ⟨_,rfl,?_⟩;obtain ⟨hf0,hf1,hf2,hf3,hf4,hb,hw⟩:=HH_.out;refine hK.out _ _ ?_;exact .mk (.agg cs.toArray) (.int .i64 (rgt t i.2.2.1)) p6 p7 p8 xs (by simp only [Act.put,sA,sB,sC]) (p_g hb hb2 HCN.out) (fun _=>rfl) (fun _=>rfl) (upk hf2 rfl) (upk hf3 rfl) (upk hf4 rfl)
  refine StepsL.cons (k:=2) rfl (fun listed a1 w1 hI hn hw K hK=>?_) ?_
  ·cases hI with | mk p4 p5 p6 p7 p8 xs ea hb hf0 hf1 hf2 hf3 hf4 =>
    have Hhb:=hid hb;have HH_:=hid (cj hf0<|cj hf1<|cj hf2<|cj hf3<|cj hf4<|hw);clear hf0 hf1 hf2 hf3 hf4 hb hw;rw [ea];clear ea;simp only [Act.put,sA,sB,sC];refine c_H (by rfl) ?_;refine wp_load_mid 168 _ rfl w.heap.size 0 rfl cs _ (a_f Hhb.out.2.1) Tryz.underlying168 rfl HCI.out ?_;obtain ⟨hf0,hf1,hf2,hf3,hf4,hw⟩:=HH_.out;have hb:=Hhb.out;refine hK.out _ _ ?_;exact .mk p4 p5 (.agg cs.toArray) p7 p8 xs (by simp only [Act.put,sA,sB,sC]) (hb) (upk hf0 rfl) (upk hf1 rfl) (fun _=>rfl) (upk hf3 rfl) (upk hf4 rfl)
  refine StepsL.cons (k:=3) rfl (fun listed a1 w1 hI hn hw K hK=>?_) ?_
  ·cases hI with | mk p4 p5 p6 p7 p8 xs ea hb hf0 hf1 hf2 hf3 hf4 =>
    have e_f2:=hf2 (hw 2 (by decide));subst e_f2;have HH_:=N199;clear hf0 hf1 hf2 hf3 hf4 hb hw;rw [ea];clear ea;simp only [Act.put,sA,sB,sC];have h0:=N148;rw [←HCA.out] at h0;refine c_H (by rfl) ?_;refine a_Q _ _ _ rfl 156 rfl [.agg cs.toArray] rfl (by kernel_rfl) (h0.mono ?_);rintro e w2 ⟨rfl,hb2⟩;refine ⟨_,rfl,?_⟩;obtain ⟨hf0,hf1,hf2,hf3,hf4,hb,hw⟩:=HH_.out;refine hK.out _ _ ?_;exact .mk p4 p5 (.agg cs.toArray) (.int .i64 (rgt t i.2.2.2)) p8 xs (by simp only [Act.put,sA,sB,sC]) (p_g hb hb2 HCN.out) (upk hf0 rfl) (upk hf1 rfl) (fun _=>rfl) (fun _=>rfl) (upk hf4 rfl)
  refine StepsL.cons (k:=4) rfl (fun listed a1 w1 hI hn hw K hK=>?_) ?_
  ·cases hI with | mk p4 p5 p6 p7 p8 xs ea hb hf0 hf1 hf2 hf3 hf4 =>
    have e_f1:=hf1 (hw 1 (by decide));have e_f3:=hf3 (hw 3 (by decide));subst e_f1 e_f3;have HH_:=N199;clear hf0 hf1 hf2 hf3 hf4 hb hw;rw [ea];clear ea;simp only [Act.put,sA,sB,sC]
    go_simp
    obtain ⟨hf0,hf1,hf2,hf3,hf4,hb,hw⟩:=HH_.out;refine hK.out _ _ ?_;exact .mk p4 (.int .i64 (rgt t i.2.2.1)) p6 (.int .i64 (rgt t i.2.2.2)) (.bool (decide (rgt t i.2.2.1 < rgt t i.2.2.2))) xs (by simp only [Act.put,sA,sB,sC]) (hb) (upk hf0 rfl) (fun _=>rfl) (upk hf2 rfl) (fun _=>rfl) (fun _=>rfl)
  exact StepsL.nil
 ·intro listed a1 w1 hI hu
  cases hI with | mk p4 p5 p6 p7 p8 xs ea hb hf0 hf1 hf2 hf3 hf4 =>
   have e8:=hf4 (hu 4);subst e8;have HB1:=hid (HB.out.trans hb.1);have HX1:=hid (HCS.out▸hb.2.1);have HL1:=hb.2.2.2;have HR1:=hid hb.2.2.1;clear hf0 hf1 hf2 hf3 hf4 hb hu HX HR HB HW;rw [ea];clear ea;simp only [Act.put,sA,sB,sC]
   match xs,HL1,HR1 with
   | [x0,x1,x2,x3,x4,x5,x6,x7,x8,x9,x10,x11,x12],_,HR1 =>
    by_cases hlt:rgt t i.2.2.1 < rgt t i.2.2.2
    ·have hd:decide (rgt t i.2.2.1 < rgt t i.2.2.2)=true:=decide_eq_true hlt;rw [if_pos hlt] at HZ;rw [hd];clear hlt hd
     go_wp2_with (refine wpList_load_mid rfl 168 _ rfl w.heap.size 0 rfl (tkC t fa fn fc la ln lc self i) _ (a_f HX1.out) Tryz.underlying168 rfl (by kernel_rfl) ?_)
     have h0:=b_o t self i 1 fa la fn fc ln lc w1 Ha.out HP.out;rw [HZ.out] at h0;refine h0.mono ?_;clear h0;rintro e w9 ⟨rfl,hb1⟩;have HB9:=hid (a_a HB1.out hb1);have HR9:=hid (a_h hb1 HR1.out);clear hb1;exact J26
    ·have hd:decide (rgt t i.2.2.1 < rgt t i.2.2.2)=false:=decide_eq_false hlt;rw [if_neg hlt] at HZ;rw [hd];clear hlt hd
     go_wp2_with (refine wpList_load_mid rfl 168 _ rfl w.heap.size 0 rfl (tkC t fa fn fc la ln lc self i) _ (a_f HX1.out) Tryz.underlying168 rfl (by kernel_rfl) ?_)
     have h0:=b_o t self i 0 fa la fn fc ln lc w1 Ha.out HP.out;rw [HZ.out] at h0;refine h0.mono ?_;clear h0;rintro e w9 ⟨rfl,hb1⟩;have HB9:=hid (a_a HB1.out hb1);have HR9:=hid (a_h hb1 HR1.out);clear hb1;exact J26
theorem k_Y (t:Thr) (self:Int) (i:In4) (fa la:Option Addr) (fn fc ln lc:Nat) (w:World)  (F:ThF w fa fn fc la ln lc t) :
  Calls Tryz.prog 143 #[.agg (tkC t fa fn fc la ln lc self i).toArray] w (ThPostF (f_l t i.2.1) (d_B t i.2.1) w):=by
 obtain ⟨z,hz⟩:=mn (f_l t i.2.1);obtain ⟨x,hx⟩:=mn (d_B t i.2.1);rw [hz,hx];have HXE:=hid hx;clear hx;obtain ⟨W,hW⟩:=nm ((w.alloc (Obj.cells (tkC t fa fn fc la ln lc self i).toArray 168)).alloc (Obj.cells thN.toArray 46));have X:=N18;have R:=N14;have hB:=N2;have ⟨HX,HR,HB,HW,HZ⟩:=hh5 X R hB hW hz;have HZW:=N43;have HBW:=hid (show Below w.heap.size w W from hB);replace F:=hid F;clear hW X R hB hz
 go_enter Tryz.func143,Tryz.ntmps143
 go_upto_region 1 with fail
 rw [←HW.out];have k15:=(HX.out 15 _ rfl).1
 go_wp2_with (refine wpList_load_mid rfl 46 _ rfl w.heap.size 0 rfl (thC t fa fn fc la ln lc) _ (a_f (m_s HX.out)) Tryz.underlying46 rfl (by kernel_rfl) ?_)
 have h0:=k_R t i.2.1 fa la fn fc ln lc W (d_b HBW.out F.out);rw [HZ.out,HXE.out] at h0;refine h0.mono ?_;clear h0;rintro e w1 ⟨fa1,fc1,la1,lc1,rfl,Q1,hb1⟩;obtain ⟨fn1,hfn⟩:=mn (z.fs.length);obtain ⟨ln1,hln⟩:=mn (z.lf.length);rw [hfn,hln] at Q1 ⊢;rw [HZW.out] at Q1;have HQ:=hid Q1;have HB9:=hid (a_a HB.out hb1);have HR9:=hid (a_h hb1 HR.out);have HN:=hid (And.intro hfn hln);have HS:=hid hb1.size;clear hb1 Q1 hfn hln k15;exact J54
theorem m_W (t:Thr) (self:Int) (i:In4) (fa la:Option Addr) (fn fc ln lc:Nat) (w:World)  (F:ThF w fa fn fc la ln lc t) :
  Calls Tryz.prog 144 #[.agg (tkC t fa fn fc la ln lc self i).toArray] w (ThPostF (g_a t) (e_p t) w):=by
 obtain ⟨z,hz⟩:=mn (g_a t);obtain ⟨x,hx⟩:=mn (e_p t);rw [hz,hx];have HXE:=hid hx;clear hx;obtain ⟨W,hW⟩:=nm ((w.alloc (Obj.cells (tkC t fa fn fc la ln lc self i).toArray 168)).alloc (Obj.cells thN.toArray 46));have X:=N18;have R:=N14;have hB:=N2;have ⟨HX,HR,HB,HW,HZ⟩:=hh5 X R hB hW hz;have HZW:=N43;have HBW:=hid (show Below w.heap.size w W from hB);replace F:=hid F;clear hW X R hB hz
 go_enter Tryz.func144,Tryz.ntmps144
 go_upto_region 1 with fail
 rw [←HW.out]
 go_wp2_with (refine wpList_load_mid rfl 46 _ rfl w.heap.size 0 rfl (thC t fa fn fc la ln lc) _ (a_f (m_s HX.out)) Tryz.underlying46 rfl (by kernel_rfl) ?_)
 have h0:=k_Q t fa la fn fc ln lc W (d_b HBW.out F.out);rw [HZ.out,HXE.out] at h0;refine h0.mono ?_;clear h0;rintro e w1 ⟨fa1,fc1,la1,lc1,rfl,Q1,hb1⟩;obtain ⟨fn1,hfn⟩:=mn (z.fs.length);obtain ⟨ln1,hln⟩:=mn (z.lf.length);rw [hfn,hln] at Q1 ⊢;rw [HZW.out] at Q1;have HQ:=hid Q1;have HB9:=hid (a_a HB.out hb1);have HR9:=hid (a_h hb1 HR.out);have HN:=hid (And.intro hfn hln);have HS:=hid hb1.size;clear hb1 Q1 hfn hln;exact J54
end Go.Proofs.YtogdpojnbgeknaaGreatDoor
namespace Go.Proofs.YtogdpojnbgeknaaGreatDoor
open Go.ChangeShapes Go.WideShapes Go.ChangeAt Go.RowKit
open Gen
def opsL:List Value:=[.string ⟨#[]⟩,.nilFunc,.string ⟨#[114,110]⟩,.func (.func 131) #[] #[],.string ⟨#[114,114]⟩,.func (.func 132) #[] #[],.string ⟨#[114,114,110]⟩,.func (.func 133) #[] #[],.string ⟨#[114,114,110]⟩,.func (.func 134) #[] #[],.string ⟨#[114,114,114]⟩,.func (.func 135) #[] #[],.string ⟨#[114,114,114]⟩,.func (.func 136) #[] #[],.string ⟨#[114,114,114]⟩,.func (.func 137) #[] #[],.string ⟨#[114,114,114]⟩,.func (.func 138) #[] #[],.string ⟨#[114,114,114]⟩,.func (.func 139) #[] #[],.string ⟨#[116]⟩,.func (.func 140) #[] #[],.string ⟨#[114,116]⟩,.func (.func 141) #[] #[],.string ⟨#[114,116]⟩,.func (.func 142) #[] #[],.string ⟨#[116]⟩,.func (.func 143) #[] #[],.string ⟨#[]⟩,.func (.func 144) #[] #[],.string ⟨#[114]⟩,.func (.func 145) #[] #[]]
def fkL:List Nat:=[0,131,132,133,134,135,136,137,138,139,140,141,142,143,144,145]
def fk (k:Nat):Nat:=fkL.getD k 0
theorem s_7:opsL.toArray.all (·.oneCell')=true:=by simp [opsL,Value.oneCell']
theorem s_J (k:Nat) (h1:1≤k) (h2:k≤15):(Tryz.prog.funcs[fk k]?).map (fun fn=>(fn.name=="runtime.NumGoroutine",fn.body.isNone))=some (false,false):=by
 rcases (show k=1∨k=2∨k=3∨k=4∨k=5∨k=6∨k=7∨k=8∨k=9∨k=10∨k=11∨k=12∨k=13∨k=14∨k=15 by omega) with rfl | rfl | rfl | rfl | rfl | rfl | rfl | rfl | rfl | rfl | rfl | rfl | rfl | rfl | rfl <;> kernel_rfl
theorem p_B (k:Nat):(i_c k).length≤3:=by
 by_cases h:k < 16
 ·rcases (show k=0∨k=1∨k=2∨k=3∨k=4∨k=5∨k=6∨k=7∨k=8∨k=9∨k=10∨k=11∨k=12∨k=13∨k=14∨k=15 by omega) with rfl | rfl | rfl | rfl | rfl | rfl | rfl | rfl | rfl | rfl | rfl | rfl | rfl | rfl | rfl | rfl <;> decide
 ·have:i_c k=[]:=by
   unfold i_c;rw [List.getD_eq_getElem?_getD,List.getElem?_eq_none (by simp;omega)];rfl
  rw [this];decide
theorem i_2 (k:Nat) (h1:1≤k) (h2:k≤15) (w:World):(Instr.index 163 (.agg opsL.toArray) (.int .i64 (k:Nat))).run Tryz.prog w=.ok (.agg #[.string ⟨(i_c k).toArray⟩,.func (.func (fk k)) #[] #[]]) w:=by
 rcases (show k=1∨k=2∨k=3∨k=4∨k=5∨k=6∨k=7∨k=8∨k=9∨k=10∨k=11∨k=12∨k=13∨k=14∨k=15 by omega) with rfl | rfl | rfl | rfl | rfl | rfl | rfl | rfl | rfl | rfl | rfl | rfl | rfl | rfl | rfl <;> simp [go_sem,Instr.index,part,opsL,i_c,fk,fkL]
theorem r_Q {P:Program} {o:Oper} {a:Act} {w:World} {K:Act→World→Prop} {Q:Exit→Act→World→Prop} (ty:TypeId) (x y:Operand) (ho:o.op=.index ty x y) (u v r:Value) (hx:a.eval x=u) (hy:a.eval y=v)
  (hr:(Instr.index ty u v).run P w=.ok r w) (h:K (a.put o.dst r) w):Oper.wp P o a w K Q:=by
 unfold Oper.wp;simp [execOp,ho,hx,hy,hr,Result.andThen];exact h
theorem h_O (w:World):Calls Tryz.prog 115 #[] w (fun e w'=>e=.returned (.agg opsL.toArray)∧Below w.heap.size w w'):=by
 obtain ⟨W,hW⟩:=nm (w.alloc (Obj.cells #[.string ⟨#[]⟩,.nilFunc,.string ⟨#[]⟩,.nilFunc,.string ⟨#[]⟩,.nilFunc,.string ⟨#[]⟩,.nilFunc,.string ⟨#[]⟩,.nilFunc,.string ⟨#[]⟩,.nilFunc,.string ⟨#[]⟩,.nilFunc,.string ⟨#[]⟩,.nilFunc,.string ⟨#[]⟩,.nilFunc,.string ⟨#[]⟩,.nilFunc,.string ⟨#[]⟩,.nilFunc,.string ⟨#[]⟩,.nilFunc,.string ⟨#[]⟩,.nilFunc,.string ⟨#[]⟩,.nilFunc,.string ⟨#[]⟩,.nilFunc,.string ⟨#[]⟩,.nilFunc] 163));have X:a_p W w.heap.size [.string ⟨#[]⟩,.nilFunc,.string ⟨#[]⟩,.nilFunc,.string ⟨#[]⟩,.nilFunc,.string ⟨#[]⟩,.nilFunc,.string ⟨#[]⟩,.nilFunc,.string ⟨#[]⟩,.nilFunc,.string ⟨#[]⟩,.nilFunc,.string ⟨#[]⟩,.nilFunc,.string ⟨#[]⟩,.nilFunc,.string ⟨#[]⟩,.nilFunc,.string ⟨#[]⟩,.nilFunc,.string ⟨#[]⟩,.nilFunc,.string ⟨#[]⟩,.nilFunc,.string ⟨#[]⟩,.nilFunc,.string ⟨#[]⟩,.nilFunc,.string ⟨#[]⟩,.nilFunc]:=by rw [hW];exact a_e [.string ⟨#[]⟩,.nilFunc,.string ⟨#[]⟩,.nilFunc,.string ⟨#[]⟩,.nilFunc,.string ⟨#[]⟩,.nilFunc,.string ⟨#[]⟩,.nilFunc,.string ⟨#[]⟩,.nilFunc,.string ⟨#[]⟩,.nilFunc,.string ⟨#[]⟩,.nilFunc,.string ⟨#[]⟩,.nilFunc,.string ⟨#[]⟩,.nilFunc,.string ⟨#[]⟩,.nilFunc,.string ⟨#[]⟩,.nilFunc,.string ⟨#[]⟩,.nilFunc,.string ⟨#[]⟩,.nilFunc,.string ⟨#[]⟩,.nilFunc,.string ⟨#[]⟩,.nilFunc] _ rfl
 have hB:=N2;have ⟨HX,HB,HW⟩:=hh3 X hB hW;clear hW X hB
 go_enter Tryz.func115,Tryz.ntmps115
 go_upto_region 1 with fail
 rw [←HW.out]
 go_wp2_with (refine a_c rfl 163 _ _ rfl w.heap.size opsL.toArray rfl rfl _ HX.out rfl (by kernel_rfl) s_7 ?_;intro U HU)
 refine a_X (X:=.agg opsL.toArray) ⟨w.heap.size,0,none⟩ rfl rfl rfl ?_ ?_
 ·have h:=a_q (xs:=opsL) HX.out rfl;rw [show U=d_u W w.heap.size 0 opsL from HU.out];exact run_loadVar_mid _ _ 0 _ opsL _ (a_f h) Tryz.underlying163 rfl (by kernel_rfl)
 ·exact ⟨rfl,a_x HU (Nat.le_refl _) HB.out⟩
def k_t (Q:Nat→Prop) (t:Thr) (x:Int) (w:World) (e:Ending) (w':World):Prop:=
 ∃ fa fn fc la ln lc,e=.returned (.tuple #[.agg (thC t fa fn fc la ln lc).toArray,.int .i64 x])∧ThQ Q w' fa fn fc la ln lc t∧Below w.heap.size w w'
theorem b_S {Q:Nat→Prop} {t z:Thr} {x:Int} {fa la:Option Addr} {fn fc ln lc:Nat} {w:World} {e:Ending} {w':World} (hf:z.fs=t.fs) (hl:z.lf=t.lf) (hx:x=0) (F:ThQ Q w fa fn fc la ln lc t) (h:j_m z fa la fn fc ln lc 0 w e w'):k_t Q z x w e w':=by
 subst hx;obtain ⟨e1,hb⟩:=h;have F':=a_v (a_C hb) F;exact ⟨fa,fn,fc,la,ln,lc,e1,⟨F'.fcap,by rw [hf];exact F'.fs,F'.lcap,by rw [hl];exact F'.lf⟩,hb⟩
theorem h_C {Q:Nat→Prop} {z:Thr} {x:Int} {w:World} {e:Ending} {w':World} (hQ:∀ b,w.heap.size≤b→Q b) (h:ThPostF z x w e w'):k_t Q z x w e w':=by
 obtain ⟨fa,fc,la,lc,e1,F,hb⟩:=h;exact ⟨fa,_,fc,la,_,lc,e1,b_t hQ F,hb⟩
theorem h_2 (t:Thr) (b:Bool) (pc:Int):(brT t b pc).fs=t.fs∧(brT t b pc).lf=t.lf:=by unfold brT;split <;> exact ⟨rfl,rfl⟩
theorem q_A (Q:Nat→Prop) (t:Thr) (self:Int) (i:In4) (k:Nat) (fa la:Option Addr) (fn fc ln lc:Nat) (w:World) (hk:i.1=k) (h1:1≤k) (h2:k≤15) (hf:c_6 i=true) (hr:a_R t=true)
  (F:ThQ Q w fa fn fc la ln lc t) (hQ:∀ b,w.heap.size≤b→Q b):Calls Tryz.prog (fk k) #[.agg (tkC t fa fn fc la ln lc self i).toArray] w (k_t Q (doT t self i) (doE t i) w):=by
 obtain ⟨f1,f2,f3,f4,f5⟩:=b_1 hf (by omega) (by omega);have hp:=b_x hr;obtain ⟨o,A,B,C⟩:=i;simp only at hk f1 f2 f3 f4 f5
 rcases (show k=1∨k=2∨k=3∨k=4∨k=5∨k=6∨k=7∨k=8∨k=9∨k=10∨k=11∨k=12∨k=13∨k=14∨k=15 by omega) with rfl | rfl | rfl | rfl | rfl | rfl | rfl | rfl | rfl | rfl | rfl | rfl | rfl | rfl | rfl <;> obtain rfl:=hk
 ·exact (m_X t self (1,A,B,C) fa la fn fc ln lc w (f1 (by decide)) hp).mono fun e w' h=>b_S (t:=t) rfl rfl rfl F h
 ·exact (k_2 t self (2,A,B,C) fa la fn fc ln lc w (f1 (by decide)) (f3 (by decide)) hp).mono fun e w' h=>b_S (t:=t) rfl rfl rfl F h
 ·exact (k_3 t self (3,A,B,C) fa la fn fc ln lc w (f1 (by decide)) (f3 (by decide)) hp).mono fun e w' h=>b_S (t:=t) rfl rfl rfl F h
 ·exact (k_1 t self (4,A,B,C) fa la fn fc ln lc w (f1 (by decide)) (f3 (by decide)) hp).mono fun e w' h=>b_S (t:=t) rfl rfl rfl F h
 ·exact (m_U t self (5,A,B,C) fa la fn fc ln lc w (f1 (by decide)) (f3 (by decide)) (f5 (by decide)) hp).mono fun e w' h=>b_S (t:=t) rfl rfl rfl F h
 ·exact (m_Y t self (6,A,B,C) fa la fn fc ln lc w (f1 (by decide)) (f3 (by decide)) (f5 (by decide)) hp).mono fun e w' h=>b_S (t:=t) rfl rfl rfl F h
 ·exact (m_V t self (7,A,B,C) fa la fn fc ln lc w (f1 (by decide)) (f3 (by decide)) (f5 (by decide)) hp).mono fun e w' h=>b_S (t:=t) rfl rfl rfl F h
 ·exact (m_Z t self (8,A,B,C) fa la fn fc ln lc w (f1 (by decide)) (f3 (by decide)) (f5 (by decide)) hp).mono fun e w' h=>b_S (t:=t) rfl rfl rfl F h
 ·exact (k_0 t self (9,A,B,C) fa la fn fc ln lc w (f1 (by decide)) (f3 (by decide)) (f5 (by decide)) hp).mono fun e w' h=>b_S (t:=t) rfl rfl rfl F h
 ·exact (k_Z t self (10,A,B,C) fa la fn fc ln lc w  hp).mono fun e w' h=>b_S (t:=t) rfl rfl rfl F h
 ·exact (k_6 t self (11,A,B,C) fa la fn fc ln lc w (f1 (by decide)) hp).mono fun e w' h=>b_S (t:=t) (h_2 _ _ _).1 (h_2 _ _ _).2 rfl F h
 ·exact (k_4 t self (12,A,B,C) fa la fn fc ln lc w (f1 (by decide)) hp).mono fun e w' h=>b_S (t:=t) (h_2 _ _ _).1 (h_2 _ _ _).2 rfl F h
 ·exact (k_Y t self _ fa la fn fc ln lc w F.f).mono fun e w' h=>h_C hQ h
 ·exact (m_W t self _ fa la fn fc ln lc w F.f).mono fun e w' h=>h_C hQ h
 ·exact (k_5 t self (15,A,B,C) fa la fn fc ln lc w (f1 (by decide)) hp).mono fun e w' h=>b_S (t:=t) rfl rfl rfl F h
theorem e_n {ops:Array Oper} {rest:List Oper} {o:Oper} {a:Act} {Q:Exit→Act→World→Prop} {w:World} (hgd:o.guard=none) (s x:Operand)
  (ho:o.op=.call { callee:=.builtin .append,args:=#[s,x],argTypes:=#[44,44] }) (base:Nat) (v:Value) (n:Nat) (xs:List Value) (hs:a.eval s=v) (hown:w.ownsRow base 105 5 v n xs)
  (fa:Option Addr) (m c:Nat) (ys:List Fr) (hx:a.eval x=.slice fa m c) (V:Vs repFr Any w fa m ys) (C:Cap fa m c) (hn:n+m≤1000) (hbase:base≤w.heap.size)
  (h:∀ v' w',w'.ownsRow base 105 5 v' (n+m) (xs++ys.flatMap e_g)→w.grownBy w' v.ownBlock→wpList Tryz.prog ops Q rest (a.put o.dst v') w'):wpList Tryz.prog ops Q (o::rest) a w:=by
 obtain ⟨i0,hi,hz0,hz1,hz2⟩:=N224
 cases fa with
 | none =>
  obtain rfl:c=0:=C.2.2 rfl;obtain rfl:m=0:=by have:=C.1;omega
  obtain rfl:ys=[]:=List.eq_nil_of_length_eq_zero V.1;refine wpList_append_own_none hgd s x 44 ho base 105 i0 5 Tryz.underlying44 hi v n xs hs hown hx (h v w ?_ (World.grownBy.refl _ _))
  simpa using hown
 | some p =>
  exact wpList_append_own w hgd s x 44 ho base 105 i0 (.agg #[.int .i64 0,.int .i64 0,.int .i64 0,.int .i64 0,.int .i64 0]) 5 40 Tryz.underlying44 hi hz0 hz1 hz2 rfl (by decide) v n xs hs hown p m c (ys.flatMap e_g) hx (by rw [o_H,V.1]) (i_r V p rfl) (p_a _) (by unfold maxLen;omega) (by omega) hbase (fun v' w' h1 h2 _=>h v' w' h1 h2)
def h_3 (t:Thr):Int:=if t.fs.length=6 then 13 else 0
def g_C (t:Thr) (tg:Int):Thr:=if t.fs.length=6 then d_z else ⟨tg,t.r,t.fs++[(t.pc+1,t.r 4,t.r 5,t.r 6,t.r 7)],t.st,t.ft,t.lf⟩
def h_1 (t:Thr):Int:=if t.fs.length=0 then 8 else 0
def g_3 (t:Thr):Thr:=if t.fs.length=0 then d_z else ⟨(e_I t).1,j_Z t.r (e_I t).2.1 (e_I t).2.2.1 (e_I t).2.2.2.1 (e_I t).2.2.2.2,t.fs.take (t.fs.length - 1),t.st,t.ft,t.lf⟩
end Go.Proofs.YtogdpojnbgeknaaGreatDoor
namespace Go.Proofs.YtogdpojnbgeknaaGreatDoor
open Go.ChangeShapes Go.WideShapes Go.ChangeAt Go.RowKit
open Gen
open Lib (hid)
def b_8 (Q:Nat→Prop) (t:Thr) (x:Int) (w:World) (e:Ending) (w':World):Prop:=
 ∃ fa fn fc la ln lc,e=.returned (.tuple #[.agg (thC t fa fn fc la ln lc).toArray,.int .i64 x])∧ThQ Q w' fa fn fc la ln lc t∧Below w.heap.size w w'
theorem i_u {Q:Nat→Prop} {t:Thr} {x y:Int} {w w':World} (ht:t=d_z) (hx:x=y) (hb:Below w.heap.size w w'):b_8 Q t x w (.returned (.tuple #[.agg thN.toArray,.int .i64 y])) w':=by
 subst ht;subst hx;exact ⟨none,0,0,none,0,0,rfl,⟨b_W,d_h,b_W,d_h⟩,hb⟩
theorem b_i {Q:Nat→Prop} {t z:Thr} {x y:Int} {w w':World} {fa la:Option Addr} {fn fc ln lc:Nat} (ht:z=t) (hx:x=y) (F:ThQ Q w' fa fn fc la ln lc t) (hb:Below w.heap.size w w'):b_8 Q z x w (.returned (.tuple #[.agg (thC t fa fn fc la ln lc).toArray,.int .i64 y])) w':=by
 subst ht;subst hx;exact ⟨fa,fn,fc,la,ln,lc,rfl,F,hb⟩
theorem i_V (QQ:Nat→Prop) (t:Thr) (tg:Int) (fa la:Option Addr) (fn fc ln lc:Nat) (w:World) (FQ:ThQ QQ w fa fn fc la ln lc t) (hQQ:∀ b,w.heap.size≤b→QQ b) (hf:fn≤1000) (hp:0≤t.pc∧t.pc≤1000) :
  Calls Tryz.prog 98 #[.agg (thC t fa fn fc la ln lc).toArray,.int .i64 tg] w (b_8 QQ (g_C t tg) (h_3 t) w):=by
 have F:=FQ.f;have HQQ:=hid hQQ;have HFL:=hid FQ.lf.1;clear hQQ;obtain ⟨W,hW⟩:=nm ((w.alloc (Obj.cells (thC t fa fn fc la ln lc).toArray 46)).alloc (Obj.cells thN.toArray 46));have X:=N51;have R:=N14;have hB:=N2;have hz:=N85;have FW:=d_b hB F;have ⟨HX,HR,HB,HW,HZ,HF⟩:=hh6 X R hB hW hz FW;have HL:=hid (a_B (a_C hB) (c_S FQ.lf));clear hW X R hB F hz FW FQ
 go_enter Tryz.func98,Tryz.ntmps98
 go_upto_region 1 with fail
 rw [←HW.out];have k0:=(HX.out 0 _ rfl).1;have k1:=(HX.out 1 _ rfl).1;have k2:=(HX.out 2 _ rfl).1;have k3:=(HX.out 3 _ rfl).1;have k4:=(HX.out 4 _ rfl).1;have k5:=(HX.out 5 _ rfl).1;have k6:=(HX.out 6 _ rfl).1;have k7:=(HX.out 7 _ rfl).1;have k8:=(HX.out 8 _ rfl).1;have k9:=(HX.out 9 _ rfl).1;have k10:=(HX.out 10 _ rfl).1;have k11:=(HX.out 11 _ rfl).1;have k12:=(HX.out 12 _ rfl).1
 by_cases h6:fn=6
 ·subst h6;have HE:=hid (show h_3 t=13 by rw [h_3,if_pos HF.out.fs.1]);have HT:=hid (show g_C t tg=d_z by rw [g_C,if_pos HF.out.fs.1]);exact J43
 ·have q6:((fn:Int)==6)=false:=by simp;omega
  have h6':¬ t.fs.length=6:=by rw [HF.out.fs.1];exact h6
  have HE:=hid (show h_3 t=0 by rw [h_3,if_neg h6']);have HT:=hid (show g_C t tg=⟨tg,t.r,t.fs++[(t.pc+1,t.r 4,t.r 5,t.r 6,t.r 7)],t.st,t.ft,t.lf⟩ by rw [g_C,if_neg h6']);clear h6 h6';obtain ⟨W1,hW1⟩:=nm (W.alloc (Obj.cells #[] 105));have b1:=N198;have hz1:W1.heap.size=W.heap.size+1:=by rw [hW1];simp
  have V1:=g_u b1 HF.out.fs;have X1:=a_h b1 HX.out;have R1:=a_h b1 HR.out;have L1:=a_B (a_C b1) HL.out;have B1:=a_a HB.out b1;have O1:W1.ownsRow W.heap.size 105 5 (.slice (some ⟨W.heap.size,0,none⟩) 0 0) 0 []:=by rw [hW1];exact World.ownsRow_made W #[] 0 (Nat.le_refl _) (by decide) (by simp)
  have HW1:=hid hW1;have HC:=hid HF.out.fcap;clear hW1 b1
  go_upto_region 4 with fail
  rw [←HW1.out];clear k0 k1 k2 k3 k4 k5 k6 k7 k8 k9 k10 k11 k12;have k9:=(X1 9 _ rfl).1
  go_wp2_with (at_builtin;refine e_n rfl _ _ rfl W.heap.size _ 0 [] rfl O1 fa fn fc t.fs rfl V1 HC.out (by omega) (by omega) ?_)
  intro v2 W2 O2 hg2;have hz:=HZ.out;have ne1:∀ b,b < W.heap.size→(Value.slice (some ⟨W.heap.size,0,none⟩) 0 0).ownBlock≠some b:=fun b hb e=>by have:=b_b O1 e;omega
  have X2:=b_C hg2 (ne1 _ (by omega)) X1;have R2:=b_C hg2 (ne1 _ (by omega)) R1;have L2:=a_B (c_1 hg2 (fun b hb=>ne1 b (by omega))) L1;have B2:=B1.grown hg2 B1.size (fun b hb=>by have:=b_b O1 hb;omega);have hz2:W1.heap.size≤W2.heap.size:=hg2.size;have HWR:=hid (show IntKind.i64.wrap (t.pc+1)=t.pc+1 from IntWalk.i64_in _ (by omega));clear X1 R1 L1 B1 V1 hg2 ne1 k9 hp;have k0:=(X2 0 _ rfl).1;have k1:=(X2 1 _ rfl).1;have k2:=(X2 2 _ rfl).1;have k3:=(X2 3 _ rfl).1;have k4:=(X2 4 _ rfl).1;have k5:=(X2 5 _ rfl).1;have k6:=(X2 6 _ rfl).1;have k7:=(X2 7 _ rfl).1;have k8:=(X2 8 _ rfl).1;have k9:=(X2 9 _ rfl).1;have k10:=(X2 10 _ rfl).1;have k11:=(X2 11 _ rfl).1;have k12:=(X2 12 _ rfl).1;obtain ⟨i0,hi,hz0,hz1',hz2'⟩:=N224;have HI:=hid (And.intro hi (And.intro hz0 (And.intro hz1' hz2')));clear hi hz0 hz1' hz2'
  go_upto_region 5 with fail
  have hwr:=HWR.out
  go_wp2_with (at_builtin;refine wpList_append_own _ rfl _ _ 44 rfl W.heap.size 105 i0 (.agg #[.int .i64 0,.int .i64 0,.int .i64 0,.int .i64 0,.int .i64 0]) 5 40 Tryz.underlying44 HI.out.1 HI.out.2.1 HI.out.2.2.1 HI.out.2.2.2 rfl (by decide) v2 fn (t.fs.flatMap e_g) rfl (O2.alloc _) ⟨W2.heap.size,0,none⟩ 1 1 [.int .i64 (t.pc+1),.int .i64 (t.r 4),.int .i64 (t.r 5),.int .i64 (t.r 6),.int .i64 (t.r 7)] rfl rfl ?c2 ?c3 ?c4 ?c5 ?c6 ?_)
  case c2=>intro j u hu;rw [Gen.add_plain,Nat.zero_add];exact (a_e [.int .i64 (t.pc+1),.int .i64 (t.r 4),.int .i64 (t.r 5),.int .i64 (t.r 6),.int .i64 (t.r 7)] _ rfl j u hu).1
  case c3=>intro u hu;simp at hu;rcases hu with rfl | rfl | rfl | rfl | rfl <;> rfl
  case c4=>unfold maxLen;omega
  case c5=>omega
  case c6=>simp;omega
  intro v3 W3 O3 hg3 _;have ne3:∀ b,b < W.heap.size→v2.ownBlock≠some b:=fun b hb e=>by have:=b_b O2 e;omega
  have X3:=b_C hg3 (ne3 _ (by omega)) (a_s _ X2);have R3:=b_C hg3 (ne3 _ (by omega)) (a_s _ R2);have L3:=a_B (c_1 hg3 (fun b hb=>ne3 b (by omega))) (u_R _ L2);have B3:=(B2.alloc B2.size (Obj.cells #[.int .i64 (t.pc+1),.int .i64 (t.r 4),.int .i64 (t.r 5),.int .i64 (t.r 6),.int .i64 (t.r 7)] 105)).grown hg3 (B2.alloc B2.size _).size (fun b hb=>by have:=b_b O2 hb;omega);clear k0 k1 k2 k3 k4 k5 k6 k7 k8 k9 k10 k11 k12 X2 R2 L2 B2 O2 hg3 ne3 hwr O1;obtain ⟨fr,hfr⟩:∃ fr:Fr,fr=(t.pc+1,t.r 4,t.r 5,t.r 6,t.r 7):=⟨_,rfl⟩;have hcs:=N90;rw [hcs] at O3;have hlen:(t.fs++[fr]).length=fn+1:=by rw [List.length_append,HF.out.fs.1];rfl
  replace HT:Hid (g_C t tg=⟨tg,t.r,t.fs++[fr],t.st,t.ft,t.lf⟩):=by rw [hfr];exact HT
  obtain ⟨fa3,fc3,e3⟩:=c_g O3;subst e3;obtain ⟨Y1,hY1⟩:=nm (W3.setCell ⟨w.heap.size,9,none⟩ (.slice fa3 (fn+1) fc3));have X4:a_p Y1 w.heap.size (thC t fa3 (fn+1) fc3 la ln lc):=by rw [hY1];exact a_y X3 9 (by simp) _
  have R4:a_p Y1 (w.heap.size+1) thN:=by rw [hY1];exact a_l R3 (by omega) _
  have B4:=N171;have O4:Y1.ownsRow (w.heap.size+2) 105 5 (.slice fa3 (fn+1) fc3) (fn+1) ((t.fs++[fr]).flatMap e_g):=by rw [hY1];exact d_U O3 ⟨w.heap.size,9,none⟩ (b_2 O3 (.inr (by show w.heap.size < _;omega))) _
  have L4:=N127;obtain ⟨z9,f9⟩:=X3 9 _ rfl;have HY1:=hid hY1;clear hY1 X3 R3 L3 B3 O3
  go_upto_region 7 with fail
  rw [←HY1.out];clear z9 f9;obtain ⟨Y2,hY2⟩:=nm (Y1.setCell ⟨w.heap.size,0,none⟩ (.int .i64 tg));have X5:a_p Y2 w.heap.size [.int .i64 tg,.int .i64 (t.r 0),.int .i64 (t.r 1),.int .i64 (t.r 2),.int .i64 (t.r 3),.int .i64 (t.r 4),.int .i64 (t.r 5),.int .i64 (t.r 6),.int .i64 (t.r 7),.slice fa3 (fn+1) fc3,.int .i64 t.st,.int .i64 t.ft,.slice la ln lc]:=by rw [hY2];exact a_y X4 0 (by simp) _
  have R5:a_p Y2 (w.heap.size+1) thN:=by rw [hY2];exact a_l R4 (by omega) _
  have B5:=N172;have O5:Y2.ownsRow (w.heap.size+2) 105 5 (.slice fa3 (fn+1) fc3) (fn+1) ((t.fs++[fr]).flatMap e_g):=by rw [hY2];exact d_U O4 ⟨w.heap.size,0,none⟩ (b_2 O4 (.inr (by show w.heap.size < _;omega))) _
  have L5:=N128;obtain ⟨z0,f0⟩:=X4 0 _ rfl;obtain ⟨Y3,hY3⟩:=nm (d_u Y2 (w.heap.size+1) 0 [.int .i64 tg,.int .i64 (t.r 0),.int .i64 (t.r 1),.int .i64 (t.r 2),.int .i64 (t.r 3),.int .i64 (t.r 4),.int .i64 (t.r 5),.int .i64 (t.r 6),.int .i64 (t.r 7),.slice fa3 (fn+1) fc3,.int .i64 t.st,.int .i64 t.ft,.slice la ln lc]);have R6:a_p Y3 (w.heap.size+1) [.int .i64 tg,.int .i64 (t.r 0),.int .i64 (t.r 1),.int .i64 (t.r 2),.int .i64 (t.r 3),.int .i64 (t.r 4),.int .i64 (t.r 5),.int .i64 (t.r 6),.int .i64 (t.r 7),.slice fa3 (fn+1) fc3,.int .i64 t.st,.int .i64 t.ft,.slice la ln lc]:=by rw [hY3];exact a_q R5 rfl
  have B6:Below w.heap.size w Y3:=by rw [hY3];exact a_g (by omega) B5
  have O6:Y3.ownsRow (w.heap.size+2) 105 5 (.slice fa3 (fn+1) fc3) (fn+1) ((t.fs++[fr]).flatMap e_g):=by
   rw [hY3];exact a_0 (b_2 (p:=⟨w.heap.size+1,0,none⟩) O5 (.inr (by show w.heap.size+1 < _;omega))) O5
  have L6:Vs repInt QQ Y3 la ln t.lf:=by rw [hY3];exact b_e (fun _ h=>h.1) (a_B (a_u (fun b hb=>by omega)) L5)
  obtain ⟨fa4,fc4,e4,s1,s2,s3,s4⟩:=e_G (r:=repFr) O6 (f_P (t.fs++[fr])) (Q:=QQ) (fun b hb _=>HQQ.out b (by omega))
  injection e4 with e4 _ e5
  subst e4 e5;have HFIN:=hid (show a_p Y3 (w.heap.size+1) [.int .i64 tg,.int .i64 (t.r 0),.int .i64 (t.r 1),.int .i64 (t.r 2),.int .i64 (t.r 3),.int .i64 (t.r 4),.int .i64 (t.r 5),.int .i64 (t.r 6),.int .i64 (t.r 7),.slice fa3 (fn+1) fc3,.int .i64 t.st,.int .i64 t.ft,.slice la ln lc]∧ThQ QQ Y3 fa3 (fn+1) fc3 la ln lc ⟨tg,t.r,t.fs++[fr],t.st,t.ft,t.lf⟩∧Below w.heap.size w Y3 from ⟨R6,⟨⟨s1,s2,s3⟩,s4,HF.out.lcap,L6⟩,B6⟩);have ⟨HLEN,HY2,HY3,HX5,HR5⟩:=hh5 hlen hY2 hY3 X5 R5;clear hlen hcs hfr hY2 hY3 X4 X5 R4 R5 R6 B4 B5 B6 O4 O5 O6 L4 L5 L6 s1 s2 s3 s4
  go_upto_region 8 with fail
  rw [←HY2.out];clear z0 f0;have k0:=(HX5.out 0 _ rfl).1;have k1:=(HX5.out 1 _ rfl).1;have k2:=(HX5.out 2 _ rfl).1;have k3:=(HX5.out 3 _ rfl).1;have k4:=(HX5.out 4 _ rfl).1;have k5:=(HX5.out 5 _ rfl).1;have k6:=(HX5.out 6 _ rfl).1;have k7:=(HX5.out 7 _ rfl).1;have k8:=(HX5.out 8 _ rfl).1;have k9:=(HX5.out 9 _ rfl).1;have k10:=(HX5.out 10 _ rfl).1;have k11:=(HX5.out 11 _ rfl).1;have k12:=(HX5.out 12 _ rfl).1;obtain ⟨y0,g0⟩:=HR5.out 0 _ rfl;obtain ⟨y1,g1⟩:=HR5.out 1 _ rfl;obtain ⟨y2,g2⟩:=HR5.out 2 _ rfl;obtain ⟨y3,g3⟩:=HR5.out 3 _ rfl;obtain ⟨y4,g4⟩:=HR5.out 4 _ rfl;obtain ⟨y5,g5⟩:=HR5.out 5 _ rfl;obtain ⟨y6,g6⟩:=HR5.out 6 _ rfl;obtain ⟨y7,g7⟩:=HR5.out 7 _ rfl;obtain ⟨y8,g8⟩:=HR5.out 8 _ rfl;obtain ⟨y9,g9⟩:=HR5.out 9 _ rfl;obtain ⟨y10,g10⟩:=HR5.out 10 _ rfl;obtain ⟨y11,g11⟩:=HR5.out 11 _ rfl;obtain ⟨y12,g12⟩:=HR5.out 12 _ rfl
  go_wp2
  have hf:=HFIN.out;rw [HY3.out] at hf;have hL:=N245;refine a_m ⟨w.heap.size+1,0,none⟩ rfl rfl rfl hL ?_;exact b_i HT.out HE.out hf.2.1 hf.2.2
theorem i_U (QQ:Nat→Prop) (t:Thr) (fa la:Option Addr) (fn fc ln lc:Nat) (w:World) (FQ:ThQ QQ w fa fn fc la ln lc t) (hQQ:∀ b,w.heap.size≤b→QQ b) (hf:fn≤1000) :
  Calls Tryz.prog 99 #[.agg (thC t fa fn fc la ln lc).toArray] w (b_8 QQ (g_3 t) (h_1 t) w):=by
 have F:=FQ.f;have HQQ:=hid hQQ;have HFL:=hid FQ.lf.1;clear hQQ;obtain ⟨W,hW⟩:=nm ((w.alloc (Obj.cells (thC t fa fn fc la ln lc).toArray 46)).alloc (Obj.cells thN.toArray 46));have X:=N51;have R:=N14;have hB:=N2;have hz:=N85;have FW:=d_b hB F;have ⟨HX,HR,HB,HW,HZ,HF⟩:=hh6 X R hB hW hz FW;have HL:=hid (a_B (a_C hB) (c_S FQ.lf));clear hW X R hB F hz FW FQ
 go_enter Tryz.func99,Tryz.ntmps99
 go_upto_region 1 with fail
 rw [←HW.out];have k0:=(HX.out 0 _ rfl).1;have k1:=(HX.out 1 _ rfl).1;have k2:=(HX.out 2 _ rfl).1;have k3:=(HX.out 3 _ rfl).1;have k4:=(HX.out 4 _ rfl).1;have k5:=(HX.out 5 _ rfl).1;have k6:=(HX.out 6 _ rfl).1;have k7:=(HX.out 7 _ rfl).1;have k8:=(HX.out 8 _ rfl).1;have k9:=(HX.out 9 _ rfl).1;have k10:=(HX.out 10 _ rfl).1;have k11:=(HX.out 11 _ rfl).1;have k12:=(HX.out 12 _ rfl).1
 by_cases h6:fn=0
 ·subst h6;have HE:=hid (show h_1 t=8 by rw [h_1,if_pos HF.out.fs.1]);have HT:=hid (show g_3 t=d_z by rw [g_3,if_pos HF.out.fs.1]);exact J43
 ·have q6:((fn:Int)==0)=false:=by simp;omega
  have h6':¬ t.fs.length=0:=by rw [HF.out.fs.1];exact h6
  obtain ⟨b,o,x0,x1,x2,x3,x4,rfl,hx,c0,c1,c2,c3,c4⟩:=q_D HF.out.fs (show fn - 1 < fn by omega);have HE:=hid (show h_1 t=0 by rw [h_1,if_neg h6'])
  have HT:=hid (show g_3 t=⟨x0,j_Z t.r x1 x2 x3 x4,t.fs.take (fn - 1),t.st,t.ft,t.lf⟩ by
   have hl:e_I t=(x0,x1,x2,x3,x4):=by rw [e_I,HF.out.fs.1,List.getD_eq_getElem?_getD,hx];rfl
   rw [g_3,if_neg h6',hl,HF.out.fs.1])
  have i1:(1:Int)≤fn:=by omega
  have i3:fn≤fc:=HF.out.fcap.1;have i4:fc≤9223372036854775807:=HF.out.fcap.2.1;clear h6 h6' hx;obtain ⟨W1,hW1⟩:=nm (W.alloc (Obj.cells #[.int .i64 x0,.int .i64 x1,.int .i64 x2,.int .i64 x3,.int .i64 x4] 105));have b1:=N198;have hz1:W1.heap.size=W.heap.size+1:=by rw [hW1];simp
  have V1:=g_u b1 HF.out.fs;have X1:=a_h b1 HX.out;have R1:=a_h b1 HR.out;have L1:=a_B (a_C b1) HL.out;have B1:=a_a HB.out b1;have F1:a_p W1 W.heap.size [.int .i64 x0,.int .i64 x1,.int .i64 x2,.int .i64 x3,.int .i64 x4]:=by rw [hW1];exact a_e [.int .i64 x0,.int .i64 x1,.int .i64 x2,.int .i64 x3,.int .i64 x4] _ rfl
  have ⟨HW1,HZ1⟩:=hh2 hW1 hz1;clear hW1 b1 hz1
  go_upto_region 5 with fail
  rw [←HW1.out];obtain ⟨W2,hW2⟩:=nm (W1.alloc (Obj.cells #[] 105));have b2:Below W1.heap.size W1 W2:=by rw [hW2];exact (Below.refl _ _).alloc (Nat.le_refl _) _
  have hz2:W2.heap.size=W1.heap.size+1:=by rw [hW2];simp
  have V2:=g_u b2 V1;have X2:=a_h b2 X1;have R2:=a_h b2 R1;have F2:=a_h b2 F1;have L2:=a_B (a_C b2) L1;have B2:=a_a B1 b2;have O2:W2.ownsRow W1.heap.size 105 5 (.slice (some ⟨W1.heap.size,0,none⟩) 0 0) 0 []:=by rw [hW2];exact World.ownsRow_made W1 #[] 0 (Nat.le_refl _) (by decide) (by simp)
  have ⟨HW2,HZ2⟩:=hh2 hW2 hz2;clear hW2 hz2 b2 k0 k1 k2 k3 k4 k5 k6 k7 k8 k9 k10 k11 k12 c0 c1 c2 c3 c4 V1 X1 R1 F1 L1 B1
  go_upto_region 6 with fail
  rw [←HW2.out];have k9:=(X2 9 _ rfl).1;have V2':=j_b V2 (fn - 1) (by omega);have C2:=N225;have j1:¬ ((fn:Int) - 1 < 0):=by omega
  have j2:(0:Int)≤(fn:Int) - 1:=by omega
  go_wp2_with (at_builtin;refine e_n rfl _ _ rfl W1.heap.size _ 0 [] rfl O2 (some ⟨b,o,none⟩) (fn - 1) fc (t.fs.take (fn - 1)) rfl V2' C2 (by omega) (by have:=HZ2.out;omega) ?_)
  intro v3 W3 O3 hg3;have hz:=HZ.out;have hz1:=HZ1.out;have hz2:=HZ2.out;have ne3:∀ b,b < W1.heap.size→(Value.slice (some ⟨W1.heap.size,0,none⟩) 0 0).ownBlock≠some b:=fun b hb e=>by have:=b_b O2 e;omega
  have X3:=b_C hg3 (ne3 _ (by omega)) X2;have R3:=b_C hg3 (ne3 _ (by omega)) R2;have F3:=b_C hg3 (ne3 _ (by omega)) F2;have L3:=a_B (c_1 hg3 (fun b hb=>ne3 b (by omega))) L2;have B3:=B2.grown hg3 B2.size (fun b hb=>by have:=b_b O2 hb;omega);clear X2 R2 L2 B2 O2 F2 V2 V2' hg3 ne3 k9;obtain ⟨fa3,fc3,e3⟩:=c_g O3;subst e3;obtain ⟨Y1,hY1⟩:=nm (W3.setCell ⟨w.heap.size,9,none⟩ (.slice fa3 (fn - 1) fc3));have X4:a_p Y1 w.heap.size (thC t fa3 (fn - 1) fc3 la ln lc):=by rw [hY1];exact a_y X3 9 (by simp) _
  have R4:a_p Y1 (w.heap.size+1) thN:=by rw [hY1];exact a_l R3 (by omega) _
  have F4:a_p Y1 W.heap.size [.int .i64 x0,.int .i64 x1,.int .i64 x2,.int .i64 x3,.int .i64 x4]:=by rw [hY1];exact a_l F3 (by omega) _
  have B4:=N171;have O4:Y1.ownsRow W1.heap.size 105 5 (.slice fa3 (fn - 1) fc3) (fn - 1) ((t.fs.take (fn - 1)).flatMap e_g):=by rw [hY1];exact d_U O3 ⟨w.heap.size,9,none⟩ (b_2 O3 (.inr (by show w.heap.size < _;omega))) _
  have L4:=N127;obtain ⟨z9,f9⟩:=X3 9 _ rfl;have HY1:=hid hY1;clear hY1 X3 R3 L3 B3 O3 F3 hz hz1 hz2
  go_upto_region 8 with fail
  rw [←HY1.out];clear z9 f9;have hz:=HZ.out;have hz1:=HZ1.out;obtain ⟨Y2,hY2⟩:=nm (Y1.setCell ⟨w.heap.size,0,none⟩ (.int .i64 x0));have X5:a_p Y2 w.heap.size [.int .i64 x0,.int .i64 (t.r 0),.int .i64 (t.r 1),.int .i64 (t.r 2),.int .i64 (t.r 3),.int .i64 (t.r 4),.int .i64 (t.r 5),.int .i64 (t.r 6),.int .i64 (t.r 7),.slice fa3 (fn - 1) fc3,.int .i64 t.st,.int .i64 t.ft,.slice la ln lc]:=by rw [hY2];exact a_y X4 0 (by simp) _
  have R5:a_p Y2 (w.heap.size+1) thN:=by rw [hY2];exact a_l R4 (by omega) _
  have F5:a_p Y2 W.heap.size [.int .i64 x0,.int .i64 x1,.int .i64 x2,.int .i64 x3,.int .i64 x4]:=by rw [hY2];exact a_l F4 (by omega) _
  have B5:=N172;have O5:Y2.ownsRow W1.heap.size 105 5 (.slice fa3 (fn - 1) fc3) (fn - 1) ((t.fs.take (fn - 1)).flatMap e_g):=by rw [hY2];exact d_U O4 ⟨w.heap.size,0,none⟩ (b_2 O4 (.inr (by show w.heap.size < _;omega))) _
  have L5:=N128;obtain ⟨z0,f0⟩:=X4 0 _ rfl;have v0:=(F4 0 _ rfl).1;have HY2:=hid hY2;clear hY2 X4 R4 F4 L4 B4 O4 hz hz1
  go_upto_region 9 with fail
  rw [←HY2.out];clear z0 f0 v0;have hz:=HZ.out;have hz1:=HZ1.out;obtain ⟨Y3,hY3⟩:=nm (d_u Y2 w.heap.size 1 [.int .i64 (t.r 0),.int .i64 (t.r 1),.int .i64 (t.r 2),.int .i64 (t.r 3),.int .i64 x1,.int .i64 x2,.int .i64 x3,.int .i64 x4]);have X6:a_p Y3 w.heap.size [.int .i64 x0,.int .i64 (t.r 0),.int .i64 (t.r 1),.int .i64 (t.r 2),.int .i64 (t.r 3),.int .i64 x1,.int .i64 x2,.int .i64 x3,.int .i64 x4,.slice fa3 (fn - 1) fc3,.int .i64 t.st,.int .i64 t.ft,.slice la ln lc]:=by rw [hY3];exact b_c (xs:=[.int .i64 (t.r 0),.int .i64 (t.r 1),.int .i64 (t.r 2),.int .i64 (t.r 3),.int .i64 x1,.int .i64 x2,.int .i64 x3,.int .i64 x4]) 1 X5 (by simp)
  have R6:a_p Y3 (w.heap.size+1) thN:=by rw [hY3];exact a_j (by omega) R5
  have B6:Below w.heap.size w Y3:=by rw [hY3];exact a_g (Nat.le_refl _) B5
  have O6:Y3.ownsRow W1.heap.size 105 5 (.slice fa3 (fn - 1) fc3) (fn - 1) ((t.fs.take (fn - 1)).flatMap e_g):=by rw [hY3];exact a_0 (b_2 (p:=⟨w.heap.size,0,none⟩) O5 (.inr (by show w.heap.size < _;omega))) O5
  have L6:Vs repInt (fun b=>QQ b∧b < w.heap.size) Y3 la ln t.lf:=by rw [hY3];exact a_B (a_u (fun b hb=>by omega)) L5
  obtain ⟨Y4,hY4⟩:=nm (d_u Y3 (w.heap.size+1) 0 [.int .i64 x0,.int .i64 (t.r 0),.int .i64 (t.r 1),.int .i64 (t.r 2),.int .i64 (t.r 3),.int .i64 x1,.int .i64 x2,.int .i64 x3,.int .i64 x4,.slice fa3 (fn - 1) fc3,.int .i64 t.st,.int .i64 t.ft,.slice la ln lc]);have R7:a_p Y4 (w.heap.size+1) [.int .i64 x0,.int .i64 (t.r 0),.int .i64 (t.r 1),.int .i64 (t.r 2),.int .i64 (t.r 3),.int .i64 x1,.int .i64 x2,.int .i64 x3,.int .i64 x4,.slice fa3 (fn - 1) fc3,.int .i64 t.st,.int .i64 t.ft,.slice la ln lc]:=by rw [hY4];exact a_q R6 rfl
  have B7:Below w.heap.size w Y4:=by rw [hY4];exact a_g (by omega) B6
  have O7:Y4.ownsRow W1.heap.size 105 5 (.slice fa3 (fn - 1) fc3) (fn - 1) ((t.fs.take (fn - 1)).flatMap e_g):=by rw [hY4];exact a_0 (b_2 (p:=⟨w.heap.size+1,0,none⟩) O6 (.inr (by show w.heap.size+1 < _;omega))) O6
  have L7:Vs repInt QQ Y4 la ln t.lf:=by rw [hY4];exact b_e (fun _ h=>h.1) (a_B (a_u (fun b hb=>by omega)) L6)
  obtain ⟨fa4,fc4,e4,s1,s2,s3,s4⟩:=e_G (r:=repFr) O7 (f_P (t.fs.take (fn - 1))) (Q:=QQ) (fun b hb _=>HQQ.out b (by omega))
  injection e4 with e4 _ e5
  subst e4 e5;have HFIN:=hid (show a_p Y4 (w.heap.size+1) [.int .i64 x0,.int .i64 (t.r 0),.int .i64 (t.r 1),.int .i64 (t.r 2),.int .i64 (t.r 3),.int .i64 x1,.int .i64 x2,.int .i64 x3,.int .i64 x4,.slice fa3 (fn - 1) fc3,.int .i64 t.st,.int .i64 t.ft,.slice la ln lc]∧ThQ QQ Y4 fa3 (fn - 1) fc3 la ln lc ⟨x0,j_Z t.r x1 x2 x3 x4,t.fs.take (fn - 1),t.st,t.ft,t.lf⟩∧Below w.heap.size w Y4 from ⟨R7,⟨⟨s1,s2,s3⟩,s4,HF.out.lcap,L7⟩,B7⟩)
  have HLEN:Hid ((t.fs.take (fn - 1)).length=fn - 1):=by
   have h1:t.fs.length=fn:=HF.out.fs.1
   show (t.fs.take (fn - 1)).length=fn - 1
   rw [List.length_take];omega
  have HY3:Hid (Y3=((((((((Y2.setCell ⟨w.heap.size,1,none⟩ (.int .i64 (t.r 0))).setCell ⟨w.heap.size,2,none⟩ (.int .i64 (t.r 1))).setCell ⟨w.heap.size,3,none⟩ (.int .i64 (t.r 2))).setCell ⟨w.heap.size,4,none⟩ (.int .i64 (t.r 3))).setCell ⟨w.heap.size,5,none⟩ (.int .i64 x1)).setCell ⟨w.heap.size,6,none⟩ (.int .i64 x2)).setCell ⟨w.heap.size,7,none⟩ (.int .i64 x3)).setCell ⟨w.heap.size,8,none⟩ (.int .i64 x4))):=hY3;have ⟨HY4,HX5,HX6,HR6,HF5⟩:=hh5 hY4 X5 X6 R6 F5;clear hY3 hY4 X5 X6 R5 R6 R7 F5 B5 B6 B7 O5 O6 O7 L5 L6 L7 s1 s2 s3 s4 hz hz1;obtain ⟨k0,n0⟩:=HX5.out 0 _ rfl;obtain ⟨k1,n1⟩:=HX5.out 1 _ rfl;obtain ⟨k2,n2⟩:=HX5.out 2 _ rfl;obtain ⟨k3,n3⟩:=HX5.out 3 _ rfl;obtain ⟨k4,n4⟩:=HX5.out 4 _ rfl;obtain ⟨k5,n5⟩:=HX5.out 5 _ rfl;obtain ⟨k6,n6⟩:=HX5.out 6 _ rfl;obtain ⟨k7,n7⟩:=HX5.out 7 _ rfl;obtain ⟨k8,n8⟩:=HX5.out 8 _ rfl;have v0:=(HF5.out 0 _ rfl).1;have v1:=(HF5.out 1 _ rfl).1;have v2:=(HF5.out 2 _ rfl).1;have v3:=(HF5.out 3 _ rfl).1;have v4:=(HF5.out 4 _ rfl).1
  go_upto_region 10 with fail
  rw [←HY3.out];clear k0 k1 k2 k3 k4 k5 k6 k7 k8 n0 n1 n2 n3 n4 n5 n6 n7 n8 v0 v1 v2 v3 v4;have k0:=(HX6.out 0 _ rfl).1;have k1:=(HX6.out 1 _ rfl).1;have k2:=(HX6.out 2 _ rfl).1;have k3:=(HX6.out 3 _ rfl).1;have k4:=(HX6.out 4 _ rfl).1;have k5:=(HX6.out 5 _ rfl).1;have k6:=(HX6.out 6 _ rfl).1;have k7:=(HX6.out 7 _ rfl).1;have k8:=(HX6.out 8 _ rfl).1;have k9:=(HX6.out 9 _ rfl).1;have k10:=(HX6.out 10 _ rfl).1;have k11:=(HX6.out 11 _ rfl).1;have k12:=(HX6.out 12 _ rfl).1;obtain ⟨y0,g0⟩:=HR6.out 0 _ rfl;obtain ⟨y1,g1⟩:=HR6.out 1 _ rfl;obtain ⟨y2,g2⟩:=HR6.out 2 _ rfl;obtain ⟨y3,g3⟩:=HR6.out 3 _ rfl;obtain ⟨y4,g4⟩:=HR6.out 4 _ rfl;obtain ⟨y5,g5⟩:=HR6.out 5 _ rfl;obtain ⟨y6,g6⟩:=HR6.out 6 _ rfl;obtain ⟨y7,g7⟩:=HR6.out 7 _ rfl;obtain ⟨y8,g8⟩:=HR6.out 8 _ rfl;obtain ⟨y9,g9⟩:=HR6.out 9 _ rfl;obtain ⟨y10,g10⟩:=HR6.out 10 _ rfl;obtain ⟨y11,g11⟩:=HR6.out 11 _ rfl;obtain ⟨y12,g12⟩:=HR6.out 12 _ rfl
  go_wp2
  have hf:=HFIN.out;rw [HY4.out] at hf;have hL:=b_s _ _ ⟨x0,j_Z t.r x1 x2 x3 x4,t.fs.take (fn - 1),t.st,t.ft,t.lf⟩ fa3 la (fn - 1) fc3 ln lc hf.1;refine a_m ⟨w.heap.size+1,0,none⟩ rfl rfl rfl hL ?_;exact b_i HT.out HE.out hf.2.1 hf.2.2
end Go.Proofs.YtogdpojnbgeknaaGreatDoor
namespace Go.Proofs.YtogdpojnbgeknaaGreatDoor
open Go.ChangeShapes Go.WideShapes Go.ChangeAt Go.RowKit
open Gen
theorem m_t {Q:Nat→Prop} {w:World} {fa la:Option Addr} {fn fc ln lc:Nat} {t:Thr} (h:ThQ Q w fa fn fc la ln lc t):ThQ (fun b=>Q b∧b < w.heap.size) w fa fn fc la ln lc t:=⟨h.fcap,c_S h.fs,h.lcap,c_S h.lf⟩
theorem c_k {w:World} {g:Nat} {t:Thr} {fa la:Option Addr} {fn fc ln lc:Nat} (h:a_p w g (thC t fa fn fc la ln lc)):w.rangeAt g 1 (rgC t.r):=fun j v hj=>by
 have h1:=N147;refine (h (1+j) v ?_).1;rw [←hj];exact J45
theorem b_M (r:Nat→Int) (j:Nat) (hj:j < 8) (x:List Value):((.int .i64 (r 0))::(.int .i64 (r 1))::(.int .i64 (r 2))::(.int .i64 (r 3))::(.int .i64 (r 4))::(.int .i64 (r 5))::(.int .i64 (r 6))::(.int .i64 (r 7))::x)[j]?=some (.int .i64 (r j)):=by
 exact J45
theorem a_J {P:Program} {ops:Array Oper} {rest:List Oper} {o:Oper} {a:Act} {w:World} {Q:Exit→Act→World→Prop} (hg:o.guard=none) (ty:TypeId) (x y:Operand) (ho:o.op=.store ty x y) (g f:Nat) (cells:Array Value) (hx:a.eval x=.pointer (some ⟨g,f,none⟩)) (hy:a.eval y=.agg cells)
  (vs:List Value) (hv:a_p w g vs) (hl:f+cells.size≤vs.length) (hi:(P.info? ty).map (·.size)=some cells.size) (h1:cells.all (·.oneCell')=true)
  (h:∀ U,Hid (U=d_u w g f cells.toList)→wpList P ops Q rest (a.put o.dst undef) U):wpList P ops Q (o::rest) a w:=
 wpList_store_mid hg ty x y ho g f cells hx hy (fun j hj=>by
  have hv':=N213;obtain ⟨h1,h2⟩:=hv _ _ hv';exact ⟨by rw [h1];rfl,h2⟩) hi h1 (h _ (Lib.hid (f_e _ _ _ _)))
end Go.Proofs.YtogdpojnbgeknaaGreatDoor
namespace Go.Proofs.YtogdpojnbgeknaaGreatDoor
open Go.ChangeShapes Go.WideShapes Go.ChangeAt Go.RowKit
open Gen
abbrev wkC (L:WoL) (D k:Int):List Value:=[.slice L.co.a L.co.n L.co.c,.slice L.ws.a L.ws.n L.ws.c,.slice L.ts.a L.ts.n L.ts.c,.int .i64 D,.slice L.bs.a L.bs.n L.bs.c,.slice L.th.a L.th.n L.th.c,.slice L.ev.a L.ev.n L.ev.c,.int .i64 k]
abbrev wkV (L:WoL) (D k:Int):Value:=.agg #[.slice L.co.a L.co.n L.co.c,.slice L.ws.a L.ws.n L.ws.c,.slice L.ts.a L.ts.n L.ts.c,.int .i64 D,.slice L.bs.a L.bs.n L.bs.c,.slice L.th.a L.th.n L.th.c,.slice L.ev.a L.ev.n L.ev.c,.int .i64 k]
section
variable {α:Type} {r:Rep α} {Q:Nat→Prop} {w:World}
theorem h_8:∀ {ys:List α} {cs:List Value} {k:Nat} {y:α},d_p r Q w cs ys→ys[k]?=some y →
  ∃ A s B,cs=A++s++B∧A.length=k*r.k∧s.length=r.k∧r.R Q w s y∧∀ s' y',r.R Q w s' y'→d_p r Q w (A++s'++B) (ys.set k y')
 | [],_,_,_,_,h=>by simp at h
 | x::ys,cs,0,y,⟨c,d,e,h1,h2⟩,h=>by
  obtain rfl:x=y:=by simpa using h
  exact ⟨[],c,d,by simpa using e,by simp,r.len h1,h1,fun s' y' h'=>⟨s',d,by simp,h',h2⟩⟩
 | x::ys,cs,k+1,y,⟨c,d,e,h1,h2⟩,h=>by
  obtain ⟨A,s,B,e2,hA,hs,h3,h4⟩:=h_8 h2 (show ys[k]?=some y by simpa using h);refine ⟨c++A,s,B,by rw [e,e2];simp,by rw [List.length_append,hA,r.len h1,Nat.succ_mul];omega,hs,h3,fun s' y' h'=>⟨c,A++s'++B,by simp,h1,h4 s' y' h'⟩⟩
end
structure Bel (S:Nat→Prop) (w w':World):Prop where
 os:w'.os=w.os
 tape:w'.tape=w.tape
 output:w'.output=w.output
 size:w.heap.size≤w'.heap.size
 block:∀ c,c < w.heap.size→¬ S c→w'.heap[c]?=w.heap[c]?
section
variable {S:Nat→Prop} {w w1 w2:World}
theorem d_r (h:Below w.heap.size w w1):Bel S w w1:=⟨h.os,h.tape,h.output,h.size,fun c hc _=>h.block c hc⟩
theorem Bel.trans (h1:Bel S w w1) (h2:Bel S w1 w2):Bel S w w2:=⟨h2.os.trans h1.os,h2.tape.trans h1.tape,h2.output.trans h1.output,Nat.le_trans h1.size h2.size,fun c hc hs=>(h2.block c (Nat.lt_of_lt_of_le hc h1.size) hs).trans (h1.block c hc hs)⟩
theorem Bel.andB (h1:Bel S w w1) (h2:Below w1.heap.size w1 w2):Bel S w w2:=h1.trans (d_r h2)
theorem Bel.grown {row:Option Nat} (h:Bel S w w1) (hg:w1.grownBy w2 row) (hr:∀ k,row=some k→S k):Bel S w w2:=h.trans ⟨hg.os,hg.tape,hg.output,hg.size,fun c hc hs=>hg.block c hc (fun e=>hs (hr c e.symm))⟩
theorem Bel.setCell {p:Addr} (h:Bel S w w1) (hp:S p.block) (x:Value):Bel S w (w1.setCell p x):=by
 have hb:Below p.block w1 (w1.setCell p x):=(Below.refl _ _).setCell (Nat.le_refl _) x;refine h.trans ⟨hb.os,hb.tape,hb.output,hb.size,fun c hc hs=>?_⟩;have hne:c≠p.block:=fun e=>hs (e▸hp)
 rw [World.setCell];simp only [Array.getElem?_modify];rw [if_neg (fun e:p.block=c=>hne e.symm)]
theorem e_q {g:Nat} (hg:S g):∀ {xs:List Value} {w1:World} {k:Nat},Bel S w w1→Bel S w (d_u w1 g k xs)
 | [],_,_,h=>h
 | x::xs,w1,k,h=>by
  show Bel S w (d_u (w1.setCell ⟨g,k,none⟩ x) g (k+1) xs)
  exact e_q hg (h.setCell (p:=⟨g,k,none⟩) hg x)
theorem Bel.below {N:Nat} (h:Bel S w w1) (hS:∀ c,S c→N≤c) (hN:N≤w.heap.size):Below N w w1:=⟨h.os,h.tape,h.output,h.size,fun c hc=>h.block c (by omega) (fun hs=>by have:=hS c hs;omega)⟩
theorem Bel.varN {g:Nat} {vs:List Value} (h:Bel S w w1) (hg:¬ S g) (hv:a_p w g vs):a_p w1 g vs:=fun i v hi=>by
 obtain ⟨h1,h2⟩:=hv i v hi;have hb:=h.block g (b_Q h1) hg;exact ⟨(World.cell?_of_block (a:=⟨g,i,none⟩) hb).trans h1,(World.frozen?_of_block (a:=⟨g,i,none⟩) hb).trans h2⟩
end
structure Wk (Q:Nat→Prop) (w:World) (g b:Nat) (L:WoL) (X:Wo) (k:Nat):Prop where
 x:a_p w g (wkC L X.D k)
 hb:L.th.a=some ⟨b,0,none⟩
 tc:∃ TC,a_p w b TC∧d_p repTh Q w TC X.th
 co:Vs repIns Q w L.co.a L.co.n X.code
 ws:SlP Q w L.ws.a L.ws.n X.ws
 ts:SlP Q w L.ts.a L.ts.n X.ts
 bs:BlP Q w L.bs.a L.bs.n X.bs
 ev:∃ cs,w.ownsRow 0 101 6 (.slice L.ev.a L.ev.n L.ev.c) L.ev.n cs∧d_p repEv Q w cs X.ev
 evo:∀ c,(Value.slice L.ev.a L.ev.n L.ev.c).ownBlock=some c→c≠g∧c≠b∧¬ Q c
 cco:L.co.ok
 cth:L.th.ok
 cev:L.ev.ok
 hk:k < X.th.length
 hn:X.th.length=L.th.n
 hQ:∀ c,Q c→c≠g∧c≠b
 hgb:g≠b
 new:∀ c,w.heap.size≤c→Q c
 lo:(∀ c,Q c→g < c)∧∀ c,(Value.slice L.ev.a L.ev.n L.ev.c).ownBlock=some c→g < c
theorem l_U {Q:Nat→Prop} {w:World} {v:Value} {n:Nat} {es:List Ev} {c f:Nat} {us:List Value} (h:∃ cs,w.ownsRow 0 101 6 v n cs∧d_p repEv Q w cs es) (hc:v.ownBlock≠some c) (hQ:∀ x,Q x→x≠c):∃ cs,(d_u w c f us).ownsRow 0 101 6 v n cs∧d_p repEv Q (d_u w c f us) cs es:=by
 obtain ⟨cs,h1,h2⟩:=h;exact ⟨cs,a_0 hc h1,b_n (a_u hQ) h2⟩
section
variable {Q:Nat→Prop} {w w':World} {g b:Nat} {L:WoL} {X:Wo} {k:Nat}
theorem d_y (hB:Below w.heap.size w w') (H:Wk Q w g b L X k):Wk Q w' g b L X k:=by
 have hK:=a_C (Q:=Q) hB;obtain ⟨TC,h1,h2⟩:=H.tc;obtain ⟨es,e1,e2⟩:=H.ev;exact ⟨a_h hB H.x,H.hb,⟨TC,a_h hB h1,b_n hK h2⟩,a_B hK H.co,a_r hK H.ws,a_r hK H.ts,a_G hK H.bs,⟨es,b_a e1 hB,b_n hK e2⟩,H.evo,H.cco,H.cth,H.cev,H.hk,H.hn,H.hQ,H.hgb,fun c hc=>H.new c (Nat.le_trans hB.size hc),H.lo⟩
theorem k_a {X:Wo} {k:Nat} (hk:k < X.th.length):X.th[k]?=some (thW X k):=by
 rw [thW,List.getD_eq_getElem?_getD,List.getElem?_eq_getElem hk];rfl
theorem c_4 (H:Wk Q w g b L X k):∃ fa fc la lc,ThQ Q w fa (thW X k).fs.length fc la (thW X k).lf.length lc (thW X k) ∧
  ∀ j v,(thC (thW X k) fa (thW X k).fs.length fc la (thW X k).lf.length lc)[j]?=some v→w.cell? ⟨b,k*13+j,none⟩=some v∧w.frozen? ⟨b,k*13+j,none⟩=false:=by
 obtain ⟨TC,h1,h2⟩:=H.tc;obtain ⟨c,⟨fa,fc,la,lc,rfl,T⟩,hc⟩:=f_B h2 k _ (k_a H.hk);exact ⟨fa,fc,la,lc,T,fun j v hj=>h1 _ _ (hc j v hj)⟩
theorem p_V (H:Wk Q w g b L X k) (f:Nat) (us:List Value) (t:Thr) (hf:f+us.length≤13)
  (hR:∀ fa fc la lc,ThQ Q w fa (thW X k).fs.length fc la (thW X k).lf.length lc (thW X k)→repTh.R Q w ((thC (thW X k) fa (thW X k).fs.length fc la (thW X k).lf.length lc).take f++us++(thC (thW X k) fa (thW X k).fs.length fc la (thW X k).lf.length lc).drop (f+us.length)) t) :
  Wk Q (d_u w b (k*13+f) us) g b L (b_k X k t) k:=by
 have hK:Kept Q w (d_u w b (k*13+f) us):=a_u (fun c hc=>(H.hQ c hc).2);obtain ⟨TC,h1,h2⟩:=H.tc;obtain ⟨A,s,B,rfl,hA,hs,⟨fa,fc,la,lc,rfl,T⟩,h4⟩:=h_8 h2 (k_a H.hk);have hs13:(thC (thW X k) fa (thW X k).fs.length fc la (thW X k).lf.length lc).length=13:=hs;have hA13:A.length=k*13:=hA;have h5:=h4 _ t (hR fa fc la lc T);have h6:=b_c (xs:=us) (k*13+f) h1 (by simp only [List.length_append,hA13,hs13];omega)
 generalize thC (thW X k) fa (thW X k).fs.length fc la (thW X k).lf.length lc=s at *
 have e:(A++s++B).take (k*13+f)++us++(A++s++B).drop (k*13+f+us.length)=A++(s.take f++us++s.drop (f+us.length))++B:=by
  rw [List.append_assoc A s B,←hA13,List.take_append,List.take_of_length_le (by omega),Nat.add_assoc,List.drop_append,List.drop_of_length_le (l:=A) (by omega)];rw [show A.length+f - A.length=f by omega,show A.length+(f+us.length) - A.length=f+us.length by omega];rw [List.take_append_of_le_length (by omega),List.drop_append_of_le_length (by omega)];simp only [List.append_assoc,List.nil_append]
 rw [e] at h6;exact ⟨a_j (fun h=>H.hgb h.symm) H.x,H.hb,⟨_,h6,b_n hK h5⟩,a_B hK H.co,a_r hK H.ws,a_r hK H.ts,a_G hK H.bs,l_U H.ev (fun e=>(H.evo _ e).2.1 rfl) (fun c hc=>(H.hQ c hc).2),H.evo,H.cco,H.cth,H.cev,by rw [setW_len8];exact H.hk,by rw [setW_len8];exact H.hn,H.hQ,H.hgb,fun c hc=>H.new c (by rwa [a_O] at hc),H.lo⟩
 where setW_len8 {X:Wo} {k:Nat} {t:Thr}:(b_k X k t).th.length=X.th.length:=by simp [b_k]
end
end Go.Proofs.YtogdpojnbgeknaaGreatDoor
