import Derived.Test.YtolabfafgbmdbaaGreatDoorR6
import Derived.Test.YtolabfafgbmdbaaGreatDoorR0
import Derived.Test.YtolabfafgbmdbaaGreatDoorR16
import Derived.Test.YtolabfafgbmdbaaGreatDoorR5
import Derived.Laws.AppendOwnNone
set_option maxRecDepth 100000
set_option maxHeartbeats 16000000
namespace Go.Proofs.YtolabfafgbmdbaaGreatDoor
open Go.ChangeShapes Go.WideShapes Go.ChangeAt Go.RowKit
open Gen
open Lib (hid)
theorem j_7 {w:World} {g:Nat} {t:Thr} {self:Int} {i:In4} {fa la:Option Addr} {fn fc ln lc:Nat} (h:a_p w g (tkC t fa fn fc la ln lc self i)):a_p w g (thC t fa fn fc la ln lc):=fun j v hj=>h j v (by
 rw [←hj];have:j < 13:=by have:=(List.getElem?_eq_some_iff.1 hj).1;simpa using this
 rcases (show j=0∨j=1∨j=2∨j=3∨j=4∨j=5∨j=6∨j=7∨j=8∨j=9∨j=10∨j=11∨j=12 by omega) with rfl | rfl | rfl | rfl | rfl | rfl | rfl | rfl | rfl | rfl | rfl | rfl | rfl <;> rfl)
theorem k_y (t:Thr) (self:Int) (i:In4) (fa la:Option Addr) (fn fc ln lc:Nat) (w:World) (ha:0≤i.2.1∧i.2.1≤7) (hp:0≤t.pc∧t.pc≤1000) :
  Calls Tryz.prog 131 #[.agg (tkC t fa fn fc la ln lc self i).toArray] w (h_w (d_P t i.2.1 i.2.2.1) fa la fn fc ln lc 0 w):=by
 obtain ⟨z,hz⟩:=mn (d_P t i.2.1 i.2.2.1);rw [hz];obtain ⟨W,hW⟩:=nm ((w.alloc (Obj.cells (tkC t fa fn fc la ln lc self i).toArray 168)).alloc (Obj.cells thN.toArray 46));have X:=N7;have R:=N11;have hB:=N2;have ⟨HX,HR,HB,HW,HZ,HP,Ha⟩:=hh7 X R hB hW hz hp ha;clear hW X R hB hz hp ha
 go_enter Tryz.func131,Tryz.ntmps131
 go_upto_region 1 with fail
 rw [←HW.out];have k16:=(HX.out 16 _ rfl).1
 go_wp2_with (refine wpList_load_mid rfl 168 _ rfl w.heap.size 0 rfl (tkC t fa fn fc la ln lc self i) _ (a_l HX.out) Tryz.underlying168 rfl (by kernel_rfl) ?_)
 have h0:=a_U t self i i.2.2.1 fa la fn fc ln lc W Ha.out HP.out;rw [HZ.out] at h0;refine h0.mono ?_;clear h0;rintro e w9 ⟨rfl,hb1⟩;have HB9:=hid (a_b HB.out hb1);have HR9:=hid (a_f hb1 HR.out);clear hb1 k16;exact J20
theorem i_Y (t:Thr) (self:Int) (i:In4) (fa la:Option Addr) (fn fc ln lc:Nat) (w:World) (ha:0≤i.2.1∧i.2.1≤7) (hp:0≤t.pc∧t.pc≤1000) :
  Calls Tryz.prog 145 #[.agg (tkC t fa fn fc la ln lc self i).toArray] w (h_w (d_P t i.2.1 self) fa la fn fc ln lc 0 w):=by
 obtain ⟨z,hz⟩:=mn (d_P t i.2.1 self);rw [hz];obtain ⟨W,hW⟩:=nm ((w.alloc (Obj.cells (tkC t fa fn fc la ln lc self i).toArray 168)).alloc (Obj.cells thN.toArray 46));have X:=N7;have R:=N11;have hB:=N2;have ⟨HX,HR,HB,HW,HZ,HP,Ha⟩:=hh7 X R hB hW hz hp ha;clear hW X R hB hz hp ha
 go_enter Tryz.func145,Tryz.ntmps145
 go_upto_region 1 with fail
 rw [←HW.out];have k13:=(HX.out 13 _ rfl).1
 go_wp2_with (refine wpList_load_mid rfl 168 _ rfl w.heap.size 0 rfl (tkC t fa fn fc la ln lc self i) _ (a_l HX.out) Tryz.underlying168 rfl (by kernel_rfl) ?_)
 have h0:=a_U t self i self fa la fn fc ln lc W Ha.out HP.out;rw [HZ.out] at h0;refine h0.mono ?_;clear h0;rintro e w9 ⟨rfl,hb1⟩;have HB9:=hid (a_b HB.out hb1);have HR9:=hid (a_f hb1 HR.out);clear hb1 k13;exact J20
theorem i_S (t:Thr) (self:Int) (i:In4) (fa la:Option Addr) (fn fc ln lc:Nat) (w:World)  (hp:0≤t.pc∧t.pc≤1000) :
  Calls Tryz.prog 140 #[.agg (tkC t fa fn fc la ln lc self i).toArray] w (h_w (goT t i.2.1) fa la fn fc ln lc 0 w):=by
 obtain ⟨z,hz⟩:=mn (goT t i.2.1);rw [hz];obtain ⟨W,hW⟩:=nm ((w.alloc (Obj.cells (tkC t fa fn fc la ln lc self i).toArray 168)).alloc (Obj.cells thN.toArray 46));have X:=N7;have R:=N11;have hB:=N2;have ⟨HX,HR,HB,HW,HZ,HP⟩:=hh6 X R hB hW hz hp;clear hW X R hB hz hp
 go_enter Tryz.func140,Tryz.ntmps140
 go_upto_region 1 with fail
 rw [←HW.out];have k15:=(HX.out 15 _ rfl).1
 go_wp2_with (refine wpList_load_mid rfl 168 _ rfl w.heap.size 0 rfl (tkC t fa fn fc la ln lc self i) _ (a_l HX.out) Tryz.underlying168 rfl (by kernel_rfl) ?_)
 have h0:=c_q t self i i.2.1 fa la fn fc ln lc W;rw [HZ.out] at h0;refine h0.mono ?_;clear h0;rintro e w9 ⟨rfl,hb1⟩;have HB9:=hid (a_b HB.out hb1);have HR9:=hid (a_f hb1 HR.out);clear hb1 k15;exact J20
inductive Inv_less (t:Thr) (i:In4) (cs zs:List Value) (g:Nat) (a0:Act) (w0:World) (listed:Array Bool) (act':Act) (w':World):Prop
 | mk (p4 p5 p6 p7 p8:Value) (xs:List Value) (ea:act'=(((((a0.put (some 4) p4).put (some 5) p5).put (some 6) p6).put (some 7) p7).put (some 8) p8)) (hb:Below g w0 w'∧a_p w' g cs∧a_p w' (g+1) xs∧xs.length=13) (hf0:Up listed 0→p4=.agg cs.toArray) (hf1:Up listed 1→p5=.int .i64 (rgt t i.2.2.1)) (hf2:Up listed 2→p6=.agg cs.toArray) (hf3:Up listed 3→p7=.int .i64 (rgt t i.2.2.2)) (hf4:Up listed 4→p8=.bool (decide (rgt t i.2.2.1 < rgt t i.2.2.2))):Inv_less t i cs zs g a0 w0 listed act' w'
theorem i_T (t:Thr) (self:Int) (i:In4) (fa la:Option Addr) (fn fc ln lc:Nat) (w:World) (ha:0≤i.2.1∧i.2.1≤7) (hb:0≤i.2.2.1∧i.2.2.1≤7) (hc:0≤i.2.2.2∧i.2.2.2≤7) (hp:0≤t.pc∧t.pc≤1000) :
  Calls Tryz.prog 139 #[.agg (tkC t fa fn fc la ln lc self i).toArray] w (h_w (d_P t i.2.1 (if rgt t i.2.2.1 < rgt t i.2.2.2 then 1 else 0)) fa la fn fc ln lc 0 w):=by
 obtain ⟨z,hz⟩:=mn (d_P t i.2.1 (if rgt t i.2.2.1 < rgt t i.2.2.2 then 1 else 0));rw [hz];obtain ⟨W,hW⟩:=nm ((w.alloc (Obj.cells (tkC t fa fn fc la ln lc self i).toArray 168)).alloc (Obj.cells thN.toArray 46));obtain ⟨cs,hcs⟩:∃ cs:List Value,cs=(tkC t fa fn fc la ln lc self i):=⟨_,rfl⟩;obtain ⟨zs,hzs⟩:∃ zs:List Value,zs=(thC z fa fn fc la ln lc):=⟨_,rfl⟩;have X:a_p W w.heap.size cs:=by rw [hW,hcs];exact a_O _ (a_i (tkC t fa fn fc la ln lc self i) _ rfl)
 have R:=N11;have hB:=N2;have HCA:=hid (show cs.toArray=(tkC t fa fn fc la ln lc self i).toArray by rw [hcs]);have HCN:=hid (show 0 < cs.length by rw [hcs];simp);have HCI:=N10;have HZA:=N12;have HZN:=N25;have HZI:=N6;have ⟨HCS,HZS,HX,HR,HB,HW,HZ,HP,Ha,Hb,Hc⟩:=hh11 hcs hzs X R hB hW hz hp ha hb hc;clear hW X R hB hz hp hcs hzs ha hb hc
 go_enter Tryz.func139,Tryz.ntmps139
 go_upto_region 1 with fail
 rw [←HW.out];refine a_X (Inv_less t i cs zs w.heap.size) (by kernel_rfl) (by kernel_rfl) ?_ ?_ ?_
 ·intro listed hl;exact .mk undef undef undef undef undef thN (by simp only [Act.put,sA,sB,sC]) (⟨(Below.refl _ _).drew,b_d HX.out,b_d HR.out,rfl⟩) (fun h=>absurd h (hl 0 (by decide))) (fun h=>absurd h (hl 1 (by decide))) (fun h=>absurd h (hl 2 (by decide))) (fun h=>absurd h (hl 3 (by decide))) (fun h=>absurd h (hl 4 (by decide)))
 ·show StepsL _ _ _ _ _ _ _
  refine StepsL.cons (k:=0) rfl (fun listed a1 w1 hI hn hw K hK=>?_) ?_
  ·cases hI with | mk p4 p5 p6 p7 p8 xs ea hb hf0 hf1 hf2 hf3 hf4 =>
    have Hhb:=hid hb;have HH_:=hid (cj hf0<|cj hf1<|cj hf2<|cj hf3<|cj hf4<|hw);clear hf0 hf1 hf2 hf3 hf4 hb hw;rw [ea];clear ea;simp only [Act.put,sA,sB,sC];refine b_P (by rfl) ?_;refine wp_load_mid 168 _ rfl w.heap.size 0 rfl cs _ (a_l Hhb.out.2.1) Tryz.underlying168 rfl HCI.out ?_;obtain ⟨hf0,hf1,hf2,hf3,hf4,hw⟩:=HH_.out;have hb:=Hhb.out;refine hK.out _ _ ?_;exact .mk (.agg cs.toArray) p5 p6 p7 p8 xs (by simp only [Act.put,sA,sB,sC]) (hb) (fun _=>rfl) (upk hf1 rfl) (upk hf2 rfl) (upk hf3 rfl) (upk hf4 rfl)
  refine StepsL.cons (k:=1) rfl (fun listed a1 w1 hI hn hw K hK=>?_) ?_
  ·cases hI with | mk p4 p5 p6 p7 p8 xs ea hb hf0 hf1 hf2 hf3 hf4 =>
    have e_f0:=hf0 (hw 0 (by decide));subst e_f0;have HH_:=N85;clear hf0 hf1 hf2 hf3 hf4 hb hw;rw [ea];clear ea;simp only [Act.put,sA,sB,sC];have h0:=c_T t self i fa la fn fc ln lc w1 Hb.out;rw [←HCA.out] at h0;refine b_P (by rfl) ?_;refine a_x _ _ _ rfl 155 rfl [.agg cs.toArray] rfl (by kernel_rfl) (h0.mono ?_);rintro e w2 ⟨rfl,hb2⟩;refine ⟨_,rfl,?_⟩;obtain ⟨hf0,hf1,hf2,hf3,hf4,hb,hw⟩:=HH_.out;refine hK.out _ _ ?_;exact .mk (.agg cs.toArray) (.int .i64 (rgt t i.2.2.1)) p6 p7 p8 xs (by simp only [Act.put,sA,sB,sC]) (m_q hb hb2 HCN.out) (fun _=>rfl) (fun _=>rfl) (upk hf2 rfl) (upk hf3 rfl) (upk hf4 rfl)
  refine StepsL.cons (k:=2) rfl (fun listed a1 w1 hI hn hw K hK=>?_) ?_
  ·cases hI with | mk p4 p5 p6 p7 p8 xs ea hb hf0 hf1 hf2 hf3 hf4 =>
    have Hhb:=hid hb;have HH_:=hid (cj hf0<|cj hf1<|cj hf2<|cj hf3<|cj hf4<|hw);clear hf0 hf1 hf2 hf3 hf4 hb hw;rw [ea];clear ea;simp only [Act.put,sA,sB,sC];refine b_P (by rfl) ?_;refine wp_load_mid 168 _ rfl w.heap.size 0 rfl cs _ (a_l Hhb.out.2.1) Tryz.underlying168 rfl HCI.out ?_;obtain ⟨hf0,hf1,hf2,hf3,hf4,hw⟩:=HH_.out;have hb:=Hhb.out;refine hK.out _ _ ?_;exact .mk p4 p5 (.agg cs.toArray) p7 p8 xs (by simp only [Act.put,sA,sB,sC]) (hb) (upk hf0 rfl) (upk hf1 rfl) (fun _=>rfl) (upk hf3 rfl) (upk hf4 rfl)
  refine StepsL.cons (k:=3) rfl (fun listed a1 w1 hI hn hw K hK=>?_) ?_
  ·cases hI with | mk p4 p5 p6 p7 p8 xs ea hb hf0 hf1 hf2 hf3 hf4 =>
    have e_f2:=hf2 (hw 2 (by decide));subst e_f2;have HH_:=N85;clear hf0 hf1 hf2 hf3 hf4 hb hw;rw [ea];clear ea;simp only [Act.put,sA,sB,sC];have h0:=N61;rw [←HCA.out] at h0;refine b_P (by rfl) ?_;refine a_x _ _ _ rfl 156 rfl [.agg cs.toArray] rfl (by kernel_rfl) (h0.mono ?_);rintro e w2 ⟨rfl,hb2⟩;refine ⟨_,rfl,?_⟩;obtain ⟨hf0,hf1,hf2,hf3,hf4,hb,hw⟩:=HH_.out;refine hK.out _ _ ?_;exact .mk p4 p5 (.agg cs.toArray) (.int .i64 (rgt t i.2.2.2)) p8 xs (by simp only [Act.put,sA,sB,sC]) (m_q hb hb2 HCN.out) (upk hf0 rfl) (upk hf1 rfl) (fun _=>rfl) (fun _=>rfl) (upk hf4 rfl)
  refine StepsL.cons (k:=4) rfl (fun listed a1 w1 hI hn hw K hK=>?_) ?_
  ·cases hI with | mk p4 p5 p6 p7 p8 xs ea hb hf0 hf1 hf2 hf3 hf4 =>
    have e_f1:=hf1 (hw 1 (by decide));have e_f3:=hf3 (hw 3 (by decide));subst e_f1 e_f3;have HH_:=N85;clear hf0 hf1 hf2 hf3 hf4 hb hw;rw [ea];clear ea;simp only [Act.put,sA,sB,sC]
    go_simp
    obtain ⟨hf0,hf1,hf2,hf3,hf4,hb,hw⟩:=HH_.out;refine hK.out _ _ ?_;exact .mk p4 (.int .i64 (rgt t i.2.2.1)) p6 (.int .i64 (rgt t i.2.2.2)) (.bool (decide (rgt t i.2.2.1 < rgt t i.2.2.2))) xs (by simp only [Act.put,sA,sB,sC]) (hb) (upk hf0 rfl) (fun _=>rfl) (upk hf2 rfl) (fun _=>rfl) (fun _=>rfl)
  exact StepsL.nil
 ·intro listed a1 w1 hI hu
  cases hI with | mk p4 p5 p6 p7 p8 xs ea hb hf0 hf1 hf2 hf3 hf4 =>
   have e8:=hf4 (hu 4);subst e8;have HB1:=hid (HB.out.trans hb.1);have HX1:=hid (HCS.out▸hb.2.1);have HL1:=hb.2.2.2;have HR1:=hid hb.2.2.1;clear hf0 hf1 hf2 hf3 hf4 hb hu HX HR HB HW;rw [ea];clear ea;simp only [Act.put,sA,sB,sC]
   match xs,HL1,HR1 with
   | [x0,x1,x2,x3,x4,x5,x6,x7,x8,x9,x10,x11,x12],_,HR1 =>
    by_cases hlt:rgt t i.2.2.1 < rgt t i.2.2.2
    ·have hd:decide (rgt t i.2.2.1 < rgt t i.2.2.2)=true:=decide_eq_true hlt;rw [if_pos hlt] at HZ;rw [hd];clear hlt hd
     go_wp2_with (refine wpList_load_mid rfl 168 _ rfl w.heap.size 0 rfl (tkC t fa fn fc la ln lc self i) _ (a_l HX1.out) Tryz.underlying168 rfl (by kernel_rfl) ?_)
     have h0:=a_U t self i 1 fa la fn fc ln lc w1 Ha.out HP.out;rw [HZ.out] at h0;refine h0.mono ?_;clear h0;rintro e w9 ⟨rfl,hb1⟩;have HB9:=hid (a_b HB1.out hb1);have HR9:=hid (a_f hb1 HR1.out);clear hb1;exact J20
    ·have hd:decide (rgt t i.2.2.1 < rgt t i.2.2.2)=false:=decide_eq_false hlt;rw [if_neg hlt] at HZ;rw [hd];clear hlt hd
     go_wp2_with (refine wpList_load_mid rfl 168 _ rfl w.heap.size 0 rfl (tkC t fa fn fc la ln lc self i) _ (a_l HX1.out) Tryz.underlying168 rfl (by kernel_rfl) ?_)
     have h0:=a_U t self i 0 fa la fn fc ln lc w1 Ha.out HP.out;rw [HZ.out] at h0;refine h0.mono ?_;clear h0;rintro e w9 ⟨rfl,hb1⟩;have HB9:=hid (a_b HB1.out hb1);have HR9:=hid (a_f hb1 HR1.out);clear hb1;exact J20
theorem i_R (t:Thr) (self:Int) (i:In4) (fa la:Option Addr) (fn fc ln lc:Nat) (w:World)  (F:ThF w fa fn fc la ln lc t) :
  Calls Tryz.prog 143 #[.agg (tkC t fa fn fc la ln lc self i).toArray] w (ThPostF (g_c t i.2.1) (d_W t i.2.1) w):=by
 obtain ⟨z,hz⟩:=mn (g_c t i.2.1);obtain ⟨x,hx⟩:=mn (d_W t i.2.1);rw [hz,hx];have HXE:=hid hx;clear hx;obtain ⟨W,hW⟩:=nm ((w.alloc (Obj.cells (tkC t fa fn fc la ln lc self i).toArray 168)).alloc (Obj.cells thN.toArray 46));have X:=N7;have R:=N11;have hB:=N2;have ⟨HX,HR,HB,HW,HZ⟩:=hh5 X R hB hW hz;have HZW:=N42;have HBW:=hid (show Below w.heap.size w W from hB);replace F:=hid F;clear hW X R hB hz
 go_enter Tryz.func143,Tryz.ntmps143
 go_upto_region 1 with fail
 rw [←HW.out];have k15:=(HX.out 15 _ rfl).1
 go_wp2_with (refine wpList_load_mid rfl 46 _ rfl w.heap.size 0 rfl (thC t fa fn fc la ln lc) _ (a_l (j_7 HX.out)) Tryz.underlying46 rfl (by kernel_rfl) ?_)
 have h0:=i_M t i.2.1 fa la fn fc ln lc W (e_E HBW.out F.out);rw [HZ.out,HXE.out] at h0;refine h0.mono ?_;clear h0;rintro e w1 ⟨fa1,fc1,la1,lc1,rfl,Q1,hb1⟩;obtain ⟨fn1,hfn⟩:=mn (z.fs.length);obtain ⟨ln1,hln⟩:=mn (z.lf.length);rw [hfn,hln] at Q1 ⊢;rw [HZW.out] at Q1;have HQ:=hid Q1;have HB9:=hid (a_b HB.out hb1);have HR9:=hid (a_f hb1 HR.out);have HN:=hid (And.intro hfn hln);have HS:=hid hb1.size;clear hb1 Q1 hfn hln k15;exact J43
theorem k_x (t:Thr) (self:Int) (i:In4) (fa la:Option Addr) (fn fc ln lc:Nat) (w:World)  (F:ThF w fa fn fc la ln lc t) :
  Calls Tryz.prog 144 #[.agg (tkC t fa fn fc la ln lc self i).toArray] w (ThPostF (g_U t) (f_h t) w):=by
 obtain ⟨z,hz⟩:=mn (g_U t);obtain ⟨x,hx⟩:=mn (f_h t);rw [hz,hx];have HXE:=hid hx;clear hx;obtain ⟨W,hW⟩:=nm ((w.alloc (Obj.cells (tkC t fa fn fc la ln lc self i).toArray 168)).alloc (Obj.cells thN.toArray 46));have X:=N7;have R:=N11;have hB:=N2;have ⟨HX,HR,HB,HW,HZ⟩:=hh5 X R hB hW hz;have HZW:=N42;have HBW:=hid (show Below w.heap.size w W from hB);replace F:=hid F;clear hW X R hB hz
 go_enter Tryz.func144,Tryz.ntmps144
 go_upto_region 1 with fail
 rw [←HW.out]
 go_wp2_with (refine wpList_load_mid rfl 46 _ rfl w.heap.size 0 rfl (thC t fa fn fc la ln lc) _ (a_l (j_7 HX.out)) Tryz.underlying46 rfl (by kernel_rfl) ?_)
 have h0:=i_L t fa la fn fc ln lc W (e_E HBW.out F.out);rw [HZ.out,HXE.out] at h0;refine h0.mono ?_;clear h0;rintro e w1 ⟨fa1,fc1,la1,lc1,rfl,Q1,hb1⟩;obtain ⟨fn1,hfn⟩:=mn (z.fs.length);obtain ⟨ln1,hln⟩:=mn (z.lf.length);rw [hfn,hln] at Q1 ⊢;rw [HZW.out] at Q1;have HQ:=hid Q1;have HB9:=hid (a_b HB.out hb1);have HR9:=hid (a_f hb1 HR.out);have HN:=hid (And.intro hfn hln);have HS:=hid hb1.size;clear hb1 Q1 hfn hln;exact J43
end Go.Proofs.YtolabfafgbmdbaaGreatDoor
namespace Go.Proofs.YtolabfafgbmdbaaGreatDoor
open Go.ChangeShapes Go.WideShapes Go.ChangeAt Go.RowKit
open Gen
def opsL:List Value:=[.string ⟨#[]⟩,.nilFunc,.string ⟨#[114,110]⟩,.func (.func 131) #[] #[],.string ⟨#[114,114]⟩,.func (.func 132) #[] #[],.string ⟨#[114,114,110]⟩,.func (.func 133) #[] #[],.string ⟨#[114,114,110]⟩,.func (.func 134) #[] #[],.string ⟨#[114,114,114]⟩,.func (.func 135) #[] #[],.string ⟨#[114,114,114]⟩,.func (.func 136) #[] #[],.string ⟨#[114,114,114]⟩,.func (.func 137) #[] #[],.string ⟨#[114,114,114]⟩,.func (.func 138) #[] #[],.string ⟨#[114,114,114]⟩,.func (.func 139) #[] #[],.string ⟨#[116]⟩,.func (.func 140) #[] #[],.string ⟨#[114,116]⟩,.func (.func 141) #[] #[],.string ⟨#[114,116]⟩,.func (.func 142) #[] #[],.string ⟨#[116]⟩,.func (.func 143) #[] #[],.string ⟨#[]⟩,.func (.func 144) #[] #[],.string ⟨#[114]⟩,.func (.func 145) #[] #[]]
def fkL:List Nat:=[0,131,132,133,134,135,136,137,138,139,140,141,142,143,144,145]
def fk (k:Nat):Nat:=fkL.getD k 0
theorem p_y:opsL.toArray.all (·.oneCell')=true:=by simp [opsL,Value.oneCell']
theorem o_8 (k:Nat) (h1:1≤k) (h2:k≤15):(Tryz.prog.funcs[fk k]?).map (fun fn=>(fn.name=="runtime.NumGoroutine",fn.body.isNone))=some (false,false):=by
 rcases (show k=1∨k=2∨k=3∨k=4∨k=5∨k=6∨k=7∨k=8∨k=9∨k=10∨k=11∨k=12∨k=13∨k=14∨k=15 by omega) with rfl | rfl | rfl | rfl | rfl | rfl | rfl | rfl | rfl | rfl | rfl | rfl | rfl | rfl | rfl <;> kernel_rfl
theorem m_K (k:Nat):(g_B k).length≤3:=by
 by_cases h:k < 16
 ·rcases (show k=0∨k=1∨k=2∨k=3∨k=4∨k=5∨k=6∨k=7∨k=8∨k=9∨k=10∨k=11∨k=12∨k=13∨k=14∨k=15 by omega) with rfl | rfl | rfl | rfl | rfl | rfl | rfl | rfl | rfl | rfl | rfl | rfl | rfl | rfl | rfl | rfl <;> decide
 ·have:g_B k=[]:=by
   unfold g_B;rw [List.getD_eq_getElem?_getD,List.getElem?_eq_none (by simp;omega)];rfl
  rw [this];decide
theorem h_g (k:Nat) (h1:1≤k) (h2:k≤15) (w:World):(Instr.index 163 (.agg opsL.toArray) (.int .i64 (k:Nat))).run Tryz.prog w=.ok (.agg #[.string ⟨(g_B k).toArray⟩,.func (.func (fk k)) #[] #[]]) w:=by
 rcases (show k=1∨k=2∨k=3∨k=4∨k=5∨k=6∨k=7∨k=8∨k=9∨k=10∨k=11∨k=12∨k=13∨k=14∨k=15 by omega) with rfl | rfl | rfl | rfl | rfl | rfl | rfl | rfl | rfl | rfl | rfl | rfl | rfl | rfl | rfl <;> simp [go_sem,Instr.index,part,opsL,g_B,fk,fkL]
theorem o_o {P:Program} {o:Oper} {a:Act} {w:World} {K:Act→World→Prop} {Q:Exit→Act→World→Prop} (ty:TypeId) (x y:Operand) (ho:o.op=.index ty x y) (u v r:Value) (hx:a.eval x=u) (hy:a.eval y=v)
  (hr:(Instr.index ty u v).run P w=.ok r w) (h:K (a.put o.dst r) w):Oper.wp P o a w K Q:=by
 unfold Oper.wp;simp [execOp,ho,hx,hy,hr,Result.andThen];exact h
theorem g_f (w:World):Calls Tryz.prog 115 #[] w (fun e w'=>e=.returned (.agg opsL.toArray)∧Below w.heap.size w w'):=by
 obtain ⟨W,hW⟩:=nm (w.alloc (Obj.cells #[.string ⟨#[]⟩,.nilFunc,.string ⟨#[]⟩,.nilFunc,.string ⟨#[]⟩,.nilFunc,.string ⟨#[]⟩,.nilFunc,.string ⟨#[]⟩,.nilFunc,.string ⟨#[]⟩,.nilFunc,.string ⟨#[]⟩,.nilFunc,.string ⟨#[]⟩,.nilFunc,.string ⟨#[]⟩,.nilFunc,.string ⟨#[]⟩,.nilFunc,.string ⟨#[]⟩,.nilFunc,.string ⟨#[]⟩,.nilFunc,.string ⟨#[]⟩,.nilFunc,.string ⟨#[]⟩,.nilFunc,.string ⟨#[]⟩,.nilFunc,.string ⟨#[]⟩,.nilFunc] 163));have X:a_p W w.heap.size [.string ⟨#[]⟩,.nilFunc,.string ⟨#[]⟩,.nilFunc,.string ⟨#[]⟩,.nilFunc,.string ⟨#[]⟩,.nilFunc,.string ⟨#[]⟩,.nilFunc,.string ⟨#[]⟩,.nilFunc,.string ⟨#[]⟩,.nilFunc,.string ⟨#[]⟩,.nilFunc,.string ⟨#[]⟩,.nilFunc,.string ⟨#[]⟩,.nilFunc,.string ⟨#[]⟩,.nilFunc,.string ⟨#[]⟩,.nilFunc,.string ⟨#[]⟩,.nilFunc,.string ⟨#[]⟩,.nilFunc,.string ⟨#[]⟩,.nilFunc,.string ⟨#[]⟩,.nilFunc]:=by rw [hW];exact a_i [.string ⟨#[]⟩,.nilFunc,.string ⟨#[]⟩,.nilFunc,.string ⟨#[]⟩,.nilFunc,.string ⟨#[]⟩,.nilFunc,.string ⟨#[]⟩,.nilFunc,.string ⟨#[]⟩,.nilFunc,.string ⟨#[]⟩,.nilFunc,.string ⟨#[]⟩,.nilFunc,.string ⟨#[]⟩,.nilFunc,.string ⟨#[]⟩,.nilFunc,.string ⟨#[]⟩,.nilFunc,.string ⟨#[]⟩,.nilFunc,.string ⟨#[]⟩,.nilFunc,.string ⟨#[]⟩,.nilFunc,.string ⟨#[]⟩,.nilFunc,.string ⟨#[]⟩,.nilFunc] _ rfl
 have hB:=N2;have ⟨HX,HB,HW⟩:=hh3 X hB hW;clear hW X hB
 go_enter Tryz.func115,Tryz.ntmps115
 go_upto_region 1 with fail
 rw [←HW.out]
 go_wp2_with (refine a_h rfl 163 _ _ rfl w.heap.size opsL.toArray rfl rfl _ HX.out rfl (by kernel_rfl) p_y ?_;intro U HU)
 refine b_0 (X:=.agg opsL.toArray) ⟨w.heap.size,0,none⟩ rfl rfl rfl ?_ ?_
 ·have h:=a_r (xs:=opsL) HX.out rfl;rw [show U=c_Q W w.heap.size 0 opsL from HU.out];exact run_loadVar_mid _ _ 0 _ opsL _ (a_l h) Tryz.underlying163 rfl (by kernel_rfl)
 ·exact ⟨rfl,a_T HU (Nat.le_refl _) HB.out⟩
def i_r (Q:Nat→Prop) (t:Thr) (x:Int) (w:World) (e:Ending) (w':World):Prop:=
 ∃ fa fn fc la ln lc,e=.returned (.tuple #[.agg (thC t fa fn fc la ln lc).toArray,.int .i64 x])∧ThQ Q w' fa fn fc la ln lc t∧Below w.heap.size w w'
theorem b_i {Q:Nat→Prop} {t z:Thr} {x:Int} {fa la:Option Addr} {fn fc ln lc:Nat} {w:World} {e:Ending} {w':World} (hf:z.fs=t.fs) (hl:z.lf=t.lf) (hx:x=0) (F:ThQ Q w fa fn fc la ln lc t) (h:h_w z fa la fn fc ln lc 0 w e w'):i_r Q z x w e w':=by
 subst hx;obtain ⟨e1,hb⟩:=h;have F':=a_9 (a_G hb) F;exact ⟨fa,fn,fc,la,ln,lc,e1,⟨F'.fcap,by rw [hf];exact F'.fs,F'.lcap,by rw [hl];exact F'.lf⟩,hb⟩
theorem f_3 {Q:Nat→Prop} {z:Thr} {x:Int} {w:World} {e:Ending} {w':World} (hQ:∀ b,w.heap.size≤b→Q b) (h:ThPostF z x w e w'):i_r Q z x w e w':=by
 obtain ⟨fa,fc,la,lc,e1,F,hb⟩:=h;exact ⟨fa,_,fc,la,_,lc,e1,c_b hQ F,hb⟩
theorem j_F (t:Thr) (b:Bool) (pc:Int):(brT t b pc).fs=t.fs∧(brT t b pc).lf=t.lf:=by unfold brT;split <;> exact ⟨rfl,rfl⟩
theorem n_A (Q:Nat→Prop) (t:Thr) (self:Int) (i:In4) (k:Nat) (fa la:Option Addr) (fn fc ln lc:Nat) (w:World) (hk:i.1=k) (h1:1≤k) (h2:k≤15) (hf:f_i i=true) (hr:b_c t=true)
  (F:ThQ Q w fa fn fc la ln lc t) (hQ:∀ b,w.heap.size≤b→Q b):Calls Tryz.prog (fk k) #[.agg (tkC t fa fn fc la ln lc self i).toArray] w (i_r Q (doT t self i) (doE t i) w):=by
 obtain ⟨f1,f2,f3,f4,f5⟩:=n_D hf (by omega) (by omega);have hp:=f_U hr;obtain ⟨o,A,B,C⟩:=i;simp only at hk f1 f2 f3 f4 f5
 rcases (show k=1∨k=2∨k=3∨k=4∨k=5∨k=6∨k=7∨k=8∨k=9∨k=10∨k=11∨k=12∨k=13∨k=14∨k=15 by omega) with rfl | rfl | rfl | rfl | rfl | rfl | rfl | rfl | rfl | rfl | rfl | rfl | rfl | rfl | rfl <;> obtain rfl:=hk
 ·exact (k_y t self (1,A,B,C) fa la fn fc ln lc w (f1 (by decide)) hp).mono fun e w' h=>b_i (t:=t) rfl rfl rfl F h
 ·exact (i_V t self (2,A,B,C) fa la fn fc ln lc w (f1 (by decide)) (f3 (by decide)) hp).mono fun e w' h=>b_i (t:=t) rfl rfl rfl F h
 ·exact (i_W t self (3,A,B,C) fa la fn fc ln lc w (f1 (by decide)) (f3 (by decide)) hp).mono fun e w' h=>b_i (t:=t) rfl rfl rfl F h
 ·exact (i_U t self (4,A,B,C) fa la fn fc ln lc w (f1 (by decide)) (f3 (by decide)) hp).mono fun e w' h=>b_i (t:=t) rfl rfl rfl F h
 ·exact (k_v t self (5,A,B,C) fa la fn fc ln lc w (f1 (by decide)) (f3 (by decide)) (f5 (by decide)) hp).mono fun e w' h=>b_i (t:=t) rfl rfl rfl F h
 ·exact (k_z t self (6,A,B,C) fa la fn fc ln lc w (f1 (by decide)) (f3 (by decide)) (f5 (by decide)) hp).mono fun e w' h=>b_i (t:=t) rfl rfl rfl F h
 ·exact (k_w t self (7,A,B,C) fa la fn fc ln lc w (f1 (by decide)) (f3 (by decide)) (f5 (by decide)) hp).mono fun e w' h=>b_i (t:=t) rfl rfl rfl F h
 ·exact (k_A t self (8,A,B,C) fa la fn fc ln lc w (f1 (by decide)) (f3 (by decide)) (f5 (by decide)) hp).mono fun e w' h=>b_i (t:=t) rfl rfl rfl F h
 ·exact (i_T t self (9,A,B,C) fa la fn fc ln lc w (f1 (by decide)) (f3 (by decide)) (f5 (by decide)) hp).mono fun e w' h=>b_i (t:=t) rfl rfl rfl F h
 ·exact (i_S t self (10,A,B,C) fa la fn fc ln lc w  hp).mono fun e w' h=>b_i (t:=t) rfl rfl rfl F h
 ·exact (i_Z t self (11,A,B,C) fa la fn fc ln lc w (f1 (by decide)) hp).mono fun e w' h=>b_i (t:=t) (j_F _ _ _).1 (j_F _ _ _).2 rfl F h
 ·exact (i_X t self (12,A,B,C) fa la fn fc ln lc w (f1 (by decide)) hp).mono fun e w' h=>b_i (t:=t) (j_F _ _ _).1 (j_F _ _ _).2 rfl F h
 ·exact (i_R t self _ fa la fn fc ln lc w F.f).mono fun e w' h=>f_3 hQ h
 ·exact (k_x t self _ fa la fn fc ln lc w F.f).mono fun e w' h=>f_3 hQ h
 ·exact (i_Y t self (15,A,B,C) fa la fn fc ln lc w (f1 (by decide)) hp).mono fun e w' h=>b_i (t:=t) rfl rfl rfl F h
theorem e_n (r:Nat→Int) (j:Nat) (hj:j < 8) (x:List Value):((.int .i64 (r 0))::(.int .i64 (r 1))::(.int .i64 (r 2))::(.int .i64 (r 3))::(.int .i64 (r 4))::(.int .i64 (r 5))::(.int .i64 (r 6))::(.int .i64 (r 7))::x)[j]?=some (.int .i64 (r j)):=by
 exact J48
theorem f_m {P:Program} {ops:Array Oper} {rest:List Oper} {o:Oper} {a:Act} {w:World} {Q:Exit→Act→World→Prop} (hg:o.guard=none) (ty:TypeId) (x y:Operand) (ho:o.op=.store ty x y) (g f:Nat) (cells:Array Value) (hx:a.eval x=.pointer (some ⟨g,f,none⟩)) (hy:a.eval y=.agg cells)
  (vs:List Value) (hv:a_p w g vs) (hl:f+cells.size≤vs.length) (hi:(P.info? ty).map (·.size)=some cells.size) (h1:cells.all (·.oneCell')=true)
  (h:∀ U,Hid (U=c_Q w g f cells.toList)→wpList P ops Q rest (a.put o.dst undef) U):wpList P ops Q (o::rest) a w:=
 wpList_store_mid hg ty x y ho g f cells hx hy (fun j hj=>by
  have hv':=N95;obtain ⟨h1,h2⟩:=hv _ _ hv';exact ⟨by rw [h1];rfl,h2⟩) hi h1 (h _ (Lib.hid (d_R _ _ _ _)))
end Go.Proofs.YtolabfafgbmdbaaGreatDoor
