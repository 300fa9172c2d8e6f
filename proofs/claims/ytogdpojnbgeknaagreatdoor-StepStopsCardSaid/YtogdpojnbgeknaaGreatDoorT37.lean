import Derived.Test.YtogdpojnbgeknaaGreatDoorT20
import Derived.Test.YtogdpojnbgeknaaGreatDoorT36
import Derived.Test.YtogdpojnbgeknaaGreatDoorT0
set_option maxRecDepth 100000
set_option maxHeartbeats 16000000
namespace Go.Proofs.YtogdpojnbgeknaaGreatDoor
open Go.ChangeShapes Go.WideShapes Go.ChangeAt Go.RowKit
open Gen
open Lib (hid)
inductive InvA (t:Thr) (i:In4) (k g:Nat) (fa la:Option Addr) (fn fc ln lc:Nat) (a0:Act) (w0:World) (listed:Array Bool) (act':Act) (w':World):Prop
 | mk (p32 p33 p34 p35 p8:Value) (v:Nat) (c0:Value) (c1:Value) (ea:act'=(((((a0.put (some 32) p32).put (some 33) p33).put (some 34) p34).put (some 35) p35).put (some 8) p8)) (hb:Below g w0 w'∧a_p w' g (thC t fa fn fc la ln lc)∧a_p w' (g+1) [.int .i64 i.1,.int .i64 i.2.1,.int .i64 i.2.2.1,.int .i64 i.2.2.2]∧a_p w' (g+2) thN) (hf0:Up listed 0→p32=.agg opsL.toArray) (hf1:Up listed 1→p33=.pointer (some ⟨g+1,0,none⟩)) (hf2:Up listed 2→p34=.int .i64 (k:Nat)) (hf3:Up listed 3→p35=.agg #[.string ⟨(h_Z k).toArray⟩,.func (.func (fk k)) #[] #[]]) (hA:Up listed 4→p8=.pointer (some ⟨v,0,none⟩)∧g+3≤v∧a_p w' v [c0,c1]) (hT:Up listed 5→Up listed 4∧c0=.string ⟨(h_Z k).toArray⟩∧c1=.func (.func (fk k)) #[] #[]):InvA t i k g fa la fn fc ln lc a0 w0 listed act' w'
inductive InvB (t:Thr) (self:Int) (i:In4) (k g v:Nat) (fa la:Option Addr) (fn fc ln lc:Nat) (z:Thr) (x:Int) (a0:Act) (w0:World) (listed:Array Bool) (act':Act) (w':World):Prop
 | mk (p42 p43 p44 p45 p46 p47 p48 p49 p50 p51 p7:Value) (fa2:Option Addr) (fc2:Nat) (la2:Option Addr) (lc2:Nat) (fa3:Option Addr) (fn3:Nat) (fc3:Nat) (la3:Option Addr) (ln3:Nat) (lc3:Nat) (xs:List Value) (ea:act'=(((((((((((a0.put (some 42) p42).put (some 43) p43).put (some 44) p44).put (some 45) p45).put (some 46) p46).put (some 47) p47).put (some 48) p48).put (some 49) p49).put (some 50) p50).put (some 51) p51).put (some 7) p7)) (hb:Below g w0 w'∧a_p w' g (thC t fa fn fc la ln lc)∧a_p w' (g+1) [.int .i64 i.1,.int .i64 i.2.1,.int .i64 i.2.2.1,.int .i64 i.2.2.2]∧a_p w' v [.string ⟨(h_Z k).toArray⟩,.func (.func (fk k)) #[] #[]]∧a_p w' (g+2) xs∧xs.length=13) (hf0:Up listed 0→p42=.pointer (some ⟨v,1,none⟩)) (hf1:Up listed 1→p43=.func (.func (fk k)) #[] #[]) (hf2:Up listed 2→p44=.agg (thC t fa fn fc la ln lc).toArray) (hC:Up listed 3→p45=.agg (thC t fa2 fn fc2 la2 ln lc2).toArray∧ThQ (fun b=>w0.heap.size≤b) w' fa2 fn fc2 la2 ln lc2 t) (hf4:Up listed 4→p46=.int .i64 self) (hf5:Up listed 5→p47=.agg #[.int .i64 i.1,.int .i64 i.2.1,.int .i64 i.2.2.1,.int .i64 i.2.2.2]) (hf6:Up listed 6→p48=.agg (tkC t fa2 fn fc2 la2 ln lc2 self i).toArray) (hW6:Up listed 6→Up listed 3) (hD:Up listed 7→p49=.tuple #[.agg (thC z fa3 fn3 fc3 la3 ln3 lc3).toArray,.int .i64 x]∧ThQ (fun b=>w0.heap.size≤b) w' fa3 fn3 fc3 la3 ln3 lc3 z) (hf8:Up listed 8→p50=.agg (thC z fa3 fn3 fc3 la3 ln3 lc3).toArray) (hW8:Up listed 8→Up listed 7) (hf9:Up listed 9→p51=.int .i64 x) (hS:Up listed 10→Up listed 7∧xs=(thC z fa3 fn3 fc3 la3 ln3 lc3)) (hf11:Up listed 11→p7=.int .i64 x):InvB t self i k g v fa la fn fc ln lc z x a0 w0 listed act' w'
theorem t_I {t:Thr} {self:Int} {i:In4} (h:doE t i≠0):doT t self i=d_E:=by
 unfold doE at h
 split at h
 ·rename_i h13
  rw [doT,if_neg (by omega),if_neg (by omega),if_neg (by omega),if_pos h13];exact f_E h
 ·split at h
  ·rename_i hn h14
   rw [doT,if_neg (by omega),if_neg (by omega),if_neg (by omega),if_neg hn,if_pos h14];exact i_m h
  ·exact absurd rfl h
theorem n_I (t:Thr) (self:Int) (i:In4) (fa la:Option Addr) (fn fc ln lc:Nat) (w:World) (F:ThF w fa fn fc la ln lc t) :
  Calls Tryz.prog 93 #[.agg (thC t fa fn fc la ln lc).toArray,.int .i64 self,.agg #[.int .i64 i.1,.int .i64 i.2.1,.int .i64 i.2.2.1,.int .i64 i.2.2.2]] w (ThPostF (apT t self i) (apE t self i) w):=by
 obtain ⟨W,hW⟩:=nm (((w.alloc (Obj.cells (thC t fa fn fc la ln lc).toArray 46)).alloc (Obj.cells #[.int .i64 i.1,.int .i64 i.2.1,.int .i64 i.2.2.1,.int .i64 i.2.2.2] 66)).alloc (Obj.cells thN.toArray 46));have X:=N4;have IV:a_p W (w.heap.size+1) [.int .i64 i.1,.int .i64 i.2.1,.int .i64 i.2.2.1,.int .i64 i.2.2.2]:=by rw [hW];exact a_s _ (a_e [.int .i64 i.1,.int .i64 i.2.1,.int .i64 i.2.2.1,.int .i64 i.2.2.2] _ (by simp))
 have R:=N13;have hB:=N2;have hF:ThF W fa fn fc la ln lc t:=d_a hB F;have HFl:=N48;have ⟨HX,HI,HR,HB,HW,HF,HFW,HFB⟩:=hh8 X IV R hB hW F hF hB;clear hW X IV R hB F hF
 go_enter Tryz.func93,Tryz.ntmps93
 go_upto_region 1 with fail
 rw [←HW.out];have k0:=(HX.out 0 _ rfl).1
 by_cases hm:f_J t self=true
 ·have hm':=hid hm;have hr:Hid (a_1 t=true):=by simp only [f_J,Bool.and_eq_true] at hm;exact hm.1
  clear hm
  go_wp2_with (refine wpList_load_mid rfl 46 _ rfl w.heap.size 0 rfl (thC t fa fn fc la ln lc) _ (a_f HX.out) Tryz.underlying46 rfl (by kernel_rfl) ?_)
  refine (j_l t self fa la fn fc ln lc W HFW.out).mono ?_;rintro e w1 ⟨rfl,hb1⟩;rw [hm'.out];have HB1:=hid (a_b HB.out hb1);have HX1:=hid (a_i hb1 HX.out);have HI1:=hid (a_i hb1 HI.out);have HR1:=hid (a_i hb1 HR.out);clear hb1 HX HI HR HFW HB k0;have k0:=(HX1.out 0 _ rfl).1
  by_cases hp:t.pc=1000
  ·have HE:=hid (show apE t self i=1 by rw [apE,if_pos (.inr hp)]);rw [hp] at k0;clear hp;exact J66
  ·have hpb:(t.pc==1000)=false:=by simpa using hp
   have HPC:=hid hp;clear hp
   by_cases hy:d_1 t=true
   ·have hy':=hid hy;clear hy
    go_wp2_with (refine wpList_load_mid rfl 46 _ rfl w.heap.size 0 rfl (thC t fa fn fc la ln lc) _ (a_f HX1.out) Tryz.underlying46 rfl (by kernel_rfl) ?_)
    refine (g_5 t fa la fn fc ln lc _ HFl.out.2).mono ?_;rintro e w2 ⟨rfl,hb2⟩;rw [hy'.out];have HB2:=hid (a_b HB1.out hb2);have HX2:=hid (a_i hb2 HX1.out);have HI2:=hid (a_i hb2 HI1.out);have HR2:=hid (a_i hb2 HR1.out);clear hb2 HX1 HI1 HR1 HB1 k0 hpb;have j0:=(HI2.out 0 _ rfl).1
    have HA:Hid (∀ {y:Int},(if i.1 < 1∨15 < i.1 then 10 else if c_3 i=false then 3 else doE t i)=y→apE t self i=y):=fun h=>by
     rw [apE,if_neg (fun h1=>h1.elim (fun h1=>by rw [hm'.out] at h1;cases h1) HPC.out),if_neg (by rw [hy'.out];decide)];exact h
    by_cases ho:i.1 < 1∨15 < i.1
    ·have HE:=hid (show apE t self i=10 from HA.out (if_pos ho))
     rcases ho with ho | ho
     ·have HO:=ho;exact J43
     ·have ho1:¬ i.1 < 1:=by omega
      exact J43
    ·have ho1:¬ i.1 < 1:=by omega
     have ho2:¬ 15 < i.1:=by omega
     obtain ⟨k,hk⟩:∃ k:Nat,i.1=k:=⟨i.1.toNat,by omega⟩;have HK:=hid hk;have HKK:=hid (show 1≤k∧k≤15 by omega);have HA2:Hid (∀ {y:Int},(if c_3 i=false then 3 else doE t i)=y→apE t self i=y):=fun h=>HA.out (by rw [if_neg ho];exact h)
     clear ho hk HA
     go_upto_region 7 with fail
     clear ho1 ho2 j0;have HX:=HX2;have HI:=HI2;have HR:=HR2;clear HX2 HI2 HR2;refine b_s (InvA t i k w.heap.size fa la fn fc ln lc) (by kernel_rfl) (by kernel_rfl) ?_ ?_ ?_
     ·intro listed hl;exact .mk undef undef undef undef undef 0 undef undef (by simp only [Act.put,sA,sB,sC]) (⟨(Below.refl _ _).drew,b_J HX.out,b_J HI.out,b_J HR.out⟩) (fun h=>absurd h (hl 0 (by decide))) (fun h=>absurd h (hl 1 (by decide))) (fun h=>absurd h (hl 2 (by decide))) (fun h=>absurd h (hl 3 (by decide))) (fun h=>absurd h (hl 4 (by decide))) (fun h=>absurd h (hl 5 (by decide)))
     ·show StepsL _ _ _ _ _ _ _
      refine StepsL.cons (k:=0) rfl (fun listed a1 w1 hI hn hw K hK=>?_) ?_
      ·cases hI with | mk p32 p33 p34 p35 p8 v c0 c1 ea hb hf0 hf1 hf2 hf3 hA hT =>
        have HH_:=N78;clear hf0 hf1 hf2 hf3 hA hT hb hw;rw [ea];clear ea;simp only [Act.put,sA,sB,sC];refine c_F (by rfl) ?_;refine a_O _ _ _ rfl 115 rfl [] rfl (by kernel_rfl) ((h_C w1).mono ?_);rintro e w2 ⟨rfl,hb2⟩;refine ⟨_,rfl,?_⟩;obtain ⟨hf0,hf1,hf2,hf3,hA,hT,hb,hw⟩:=HH_.out;refine hK.out _ _ ?_;exact .mk (.agg opsL.toArray) p33 p34 p35 p8 v c0 c1 (by simp only [Act.put,sA,sB,sC]) (⟨hb.1.trans (hb2.mono (Nat.le_of_lt (a_P hb.2.1 (by simp)))),a_i hb2 hb.2.1,a_i hb2 hb.2.2.1,a_i hb2 hb.2.2.2⟩) (fun _=>rfl) (upk hf1 rfl) (upk hf2 rfl) (upk hf3 rfl) (fun h=>⟨(hA (a_a h (by decide))).1,(hA (a_a h (by decide))).2.1,a_i hb2 (hA (a_a h (by decide))).2.2⟩) (fun h=>⟨a_o (hT (a_a h (by decide))).1,(hT (a_a h (by decide))).2⟩)
      refine StepsL.cons (k:=1) rfl (fun listed a1 w1 hI hn hw K hK=>?_) ?_
      ·cases hI with | mk p32 p33 p34 p35 p8 v c0 c1 ea hb hf0 hf1 hf2 hf3 hA hT =>
        have HH_:=N78;clear hf0 hf1 hf2 hf3 hA hT hb hw;rw [ea];clear ea;simp only [Act.put,sA,sB,sC]
        go_simp
        obtain ⟨hf0,hf1,hf2,hf3,hA,hT,hb,hw⟩:=HH_.out;refine hK.out _ _ ?_;exact .mk p32 (.pointer (some ⟨w.heap.size+1,0,none⟩)) p34 p35 p8 v c0 c1 (by simp only [Act.put,sA,sB,sC]) (hb) (upk hf0 rfl) (fun _=>rfl) (upk hf2 rfl) (upk hf3 rfl) (upk hA rfl) (fun h=>⟨a_o (hT (a_a h (by decide))).1,(hT (a_a h (by decide))).2⟩)
      refine StepsL.cons (k:=2) rfl (fun listed a1 w1 hI hn hw K hK=>?_) ?_
      ·cases hI with | mk p32 p33 p34 p35 p8 v c0 c1 ea hb hf0 hf1 hf2 hf3 hA hT =>
        have e_f1:=hf1 (hw 1 (by decide));subst e_f1;have kc:=(hb.2.2.1 0 _ rfl).1;rw [HK.out] at kc;have HH_:=N78;clear hf0 hf1 hf2 hf3 hA hT hb hw;rw [ea];clear ea;simp only [Act.put,sA,sB,sC]
        go_simp
        obtain ⟨hf0,hf1,hf2,hf3,hA,hT,hb,hw⟩:=HH_.out;refine hK.out _ _ ?_;exact .mk p32 (.pointer (some ⟨w.heap.size+1,0,none⟩)) (.int .i64 (k:Nat)) p35 p8 v c0 c1 (by simp only [Act.put,sA,sB,sC]) (hb) (upk hf0 rfl) (fun _=>rfl) (fun _=>rfl) (upk hf3 rfl) (upk hA rfl) (fun h=>⟨a_o (hT (a_a h (by decide))).1,(hT (a_a h (by decide))).2⟩)
      refine StepsL.cons (k:=3) rfl (fun listed a1 w1 hI hn hw K hK=>?_) ?_
      ·cases hI with | mk p32 p33 p34 p35 p8 v c0 c1 ea hb hf0 hf1 hf2 hf3 hA hT =>
        have e_f0:=hf0 (hw 0 (by decide));have e_f2:=hf2 (hw 2 (by decide));subst e_f0 e_f2;have HH_:=N78;clear hf0 hf1 hf2 hf3 hA hT hb hw;rw [ea];clear ea;simp only [Act.put,sA,sB,sC];refine c_F (by rfl) ?_;refine r_x _ _ _ rfl _ _ _ rfl rfl (i_K k HKK.out.1 HKK.out.2 w1) ?_;obtain ⟨hf0,hf1,hf2,hf3,hA,hT,hb,hw⟩:=HH_.out;refine hK.out _ _ ?_;exact .mk (.agg opsL.toArray) p33 (.int .i64 (k:Nat)) (.agg #[.string ⟨(h_Z k).toArray⟩,.func (.func (fk k)) #[] #[]]) p8 v c0 c1 (by simp only [Act.put,sA,sB,sC]) (hb) (fun _=>rfl) (upk hf1 rfl) (fun _=>rfl) (fun _=>rfl) (upk hA rfl) (fun h=>⟨a_o (hT (a_a h (by decide))).1,(hT (a_a h (by decide))).2⟩)
      refine StepsL.cons (k:=4) rfl (fun listed a1 w1 hI hn hw K hK=>?_) ?_
      ·cases hI with | mk p32 p33 p34 p35 p8 v c0 c1 ea hb hf0 hf1 hf2 hf3 hA hT =>
        have HH_:=N78;clear hf0 hf1 hf2 hf3 hA hT hb hw;rw [ea];clear ea;simp only [Act.put,sA,sB,sC];refine c_F (by rfl) ?_
        go_simp
        obtain ⟨hf0,hf1,hf2,hf3,hA,hT,hb,hw⟩:=HH_.out;refine hK.out _ _ ?_;exact .mk p32 p33 p34 p35 (.pointer (some ⟨w1.heap.size,0,none⟩)) w1.heap.size (.string ⟨#[]⟩) .nilFunc (by simp only [Act.put,sA,sB,sC]) (⟨hb.1.alloc (Nat.le_of_lt (a_P hb.2.1 (by simp))) _,a_s _ hb.2.1,a_s _ hb.2.2.1,a_s _ hb.2.2.2⟩) (upk hf0 rfl) (upk hf1 rfl) (upk hf2 rfl) (upk hf3 rfl) (fun _=>⟨rfl,by have:=a_P hb.2.2.2 (by simp);omega,a_e [.string ⟨#[]⟩,.nilFunc] _ rfl⟩) (fun h=>absurd (hT (a_a h (by decide))).1 hn)
      refine StepsL.cons (k:=5) rfl (fun listed a1 w1 hI hn hw K hK=>?_) ?_
      ·cases hI with | mk p32 p33 p34 p35 p8 v c0 c1 ea hb hf0 hf1 hf2 hf3 hA hT =>
        have e_f3:=hf3 (hw 3 (by decide));subst e_f3;obtain ⟨e8,hv3,hV⟩:=hA (hw 4 (by decide));subst e8;have HV9:=hid hV;clear hV;have HH_:=N78;clear hf0 hf1 hf2 hf3 hA hT hb hw;rw [ea];clear ea;simp only [Act.put,sA,sB,sC];refine c_F (by rfl) ?_;refine a_0 162 _ _ rfl v #[.string ⟨(h_Z k).toArray⟩,.func (.func (fk k)) #[] #[]] rfl rfl [c0,c1] HV9.out rfl (by kernel_rfl) (by simp [Value.oneCell']) ?_;intro U HU;obtain ⟨hf0,hf1,hf2,hf3,hA,hT,hb,hw⟩:=HH_.out;refine hK.out _ _ ?_;exact .mk p32 p33 p34 (.agg #[.string ⟨(h_Z k).toArray⟩,.func (.func (fk k)) #[] #[]]) (.pointer (some ⟨v,0,none⟩)) v (.string ⟨(h_Z k).toArray⟩) (.func (.func (fk k)) #[] #[]) (by simp only [Act.put,sA,sB,sC]) (⟨a_y HU (by omega) hb.1,by rw [HU.out];exact a_j (by omega) hb.2.1,by rw [HU.out];exact a_j (by omega) hb.2.2.1,by rw [HU.out];exact a_j (by omega) hb.2.2.2⟩) (upk hf0 rfl) (upk hf1 rfl) (upk hf2 rfl) (fun _=>rfl) (fun _=>⟨rfl,hv3,by rw [HU.out];exact a_q (xs:=[.string ⟨(h_Z k).toArray⟩,.func (.func (fk k)) #[] #[]]) HV9.out rfl⟩) (fun _=>⟨a_o (hw 4 (by decide)),rfl,rfl⟩)
      exact StepsL.nil
     ·intro listed a1 w3 hI hu
      cases hI with | mk p32 p33 p34 p35 p8 v c0 c1 ea hb hf0 hf1 hf2 hf3 hA hT =>
       obtain ⟨e8,hv3,hV⟩:=hA (hu 4);obtain ⟨-,hc0,hc1⟩:=hT (hu 5);subst e8 hc0 hc1;have HB3:=hid (HB2.out.trans hb.1);have HX3:=hid hb.2.1;have HI3:=hid hb.2.2.1;have HR3:=hid hb.2.2.2;have ⟨HV3,HGV⟩:=hh2 hV hv3;clear hf0 hf1 hf2 hf3 hA hT hb hu hV HX HI HR HB2 hv3;rw [ea];clear ea;simp only [Act.put,sA,sB,sC];have kv:=(HV3.out 0 _ rfl).1
       by_cases hfi:c_3 i=true
       ·have HFI:=hid hfi;clear hfi
        go_wp2_with (refine wpList_load_mid rfl 66 _ rfl (w.heap.size+1) 0 rfl [.int .i64 i.1,.int .i64 i.2.1,.int .i64 i.2.2.1,.int .i64 i.2.2.2] _ (a_f HI3.out) Tryz.underlying66 rfl (by kernel_rfl) ?_)
        have h0:=l_F i (h_Z k) w3 (p_k k);refine h0.mono ?_;clear h0;rintro e w4 ⟨rfl,hb4⟩;rw [show g_y i (h_Z k)=true by have h:=HFI.out;rw [c_3,HK.out] at h;exact h];have HB4:=hid (a_b HB3.out hb4);have HX4:=hid (a_i hb4 HX3.out);have HI4:=hid (a_i hb4 HI3.out);have HR4:=hid (a_i hb4 HR3.out);have HV4:=hid (a_i hb4 HV3.out);clear hb4 HX3 HI3 HR3 HV3 HB3 kv
        go_upto_region 10 with fail
        have HRT:=hr;have HFB:=HB4;have HX2:=HX4;have HI2:=HI4;have HR2:=HR4;have HV2:=HV4;have HG:=hid (show w.heap.size+2 < w4.heap.size∧w.heap.size≤v∧v≠w.heap.size∧v≠w.heap.size+1∧v≠w.heap.size+2 from ⟨a_P HR4.out (by simp),by have:=HGV.out;omega,by have:=HGV.out;omega,by have:=HGV.out;omega,by have:=HGV.out;omega⟩);clear HGV HX4 HI4 HR4 HV4 hr HB4;obtain ⟨z,hz⟩:=mn (doT t self i);obtain ⟨x,hx⟩:=mn (doE t i);have ⟨HZ,HXE⟩:=hh2 hz hx;have HN:=HFl;have HL:=hid (show fn≤1000∧ln≤1000 from by have h:=d_G HRT.out;have h2:=HFl.out;omega);have HGV:=HG;clear hz hx HG HFl;refine b_s (InvB t self i k w.heap.size v fa la fn fc ln lc z x) (by kernel_rfl) (by kernel_rfl) ?_ ?_ ?_
        ·intro listed hl;exact .mk undef undef undef undef undef undef undef undef undef undef (.int .i64 0) none 0 none 0 none 0 0 none 0 0 thN (by simp only [Act.put,sA,sB,sC]) (⟨(Below.refl _ _).drew,b_J HX2.out,b_J HI2.out,b_J HV2.out,b_J HR2.out,rfl⟩) (fun h=>absurd h (hl 0 (by decide))) (fun h=>absurd h (hl 1 (by decide))) (fun h=>absurd h (hl 2 (by decide))) (fun h=>absurd h (hl 3 (by decide))) (fun h=>absurd h (hl 4 (by decide))) (fun h=>absurd h (hl 5 (by decide))) (fun h=>absurd h (hl 6 (by decide))) (fun h=>absurd h (hl 6 (by decide))) (fun h=>absurd h (hl 7 (by decide))) (fun h=>absurd h (hl 8 (by decide))) (fun h=>absurd h (hl 8 (by decide))) (fun h=>absurd h (hl 9 (by decide))) (fun h=>absurd h (hl 10 (by decide))) (fun h=>absurd h (hl 11 (by decide)))
        ·show StepsL _ _ _ _ _ _ _
         refine StepsL.cons (k:=0) rfl (fun listed a1 w1 hI hn hw K hK=>?_) ?_
         ·cases hI with | mk p42 p43 p44 p45 p46 p47 p48 p49 p50 p51 p7 fa2 fc2 la2 lc2 fa3 fn3 fc3 la3 ln3 lc3 xs ea hb hf0 hf1 hf2 hC hf4 hf5 hf6 hW6 hD hf8 hW8 hf9 hS hf11 =>
           have HH_:=N19;clear hf0 hf1 hf2 hC hf4 hf5 hf6 hW6 hD hf8 hW8 hf9 hS hf11 hb hw;rw [ea];clear ea;simp only [Act.put,sA,sB,sC]
           go_simp
           obtain ⟨hf0,hf1,hf2,hC,hf4,hf5,hf6,hW6,hD,hf8,hW8,hf9,hS,hf11,hb,hw⟩:=HH_.out;refine hK.out _ _ ?_;exact .mk (.pointer (some ⟨v,1,none⟩)) p43 p44 p45 p46 p47 p48 p49 p50 p51 p7 fa2 fc2 la2 lc2 fa3 fn3 fc3 la3 ln3 lc3 xs (by simp only [Act.put,sA,sB,sC]) (hb) (fun _=>rfl) (upk hf1 rfl) (upk hf2 rfl) (upk hC rfl) (upk hf4 rfl) (upk hf5 rfl) (upk hf6 rfl) (fun h=>a_o (hW6 (a_a h (by decide)))) (upk hD rfl) (upk hf8 rfl) (fun h=>a_o (hW8 (a_a h (by decide)))) (upk hf9 rfl) (fun h=>⟨a_o (hS (a_a h (by decide))).1,(hS (a_a h (by decide))).2⟩) (upk hf11 rfl)
         refine StepsL.cons (k:=1) rfl (fun listed a1 w1 hI hn hw K hK=>?_) ?_
         ·cases hI with | mk p42 p43 p44 p45 p46 p47 p48 p49 p50 p51 p7 fa2 fc2 la2 lc2 fa3 fn3 fc3 la3 ln3 lc3 xs ea hb hf0 hf1 hf2 hC hf4 hf5 hf6 hW6 hD hf8 hW8 hf9 hS hf11 =>
           have e_f0:=hf0 (hw 0 (by decide));subst e_f0;have kc:=(hb.2.2.2.1 1 _ rfl).1;have HH_:=N19;clear hf0 hf1 hf2 hC hf4 hf5 hf6 hW6 hD hf8 hW8 hf9 hS hf11 hb hw;rw [ea];clear ea;simp only [Act.put,sA,sB,sC]
           go_simp
           obtain ⟨hf0,hf1,hf2,hC,hf4,hf5,hf6,hW6,hD,hf8,hW8,hf9,hS,hf11,hb,hw⟩:=HH_.out;refine hK.out _ _ ?_;exact .mk (.pointer (some ⟨v,1,none⟩)) (.func (.func (fk k)) #[] #[]) p44 p45 p46 p47 p48 p49 p50 p51 p7 fa2 fc2 la2 lc2 fa3 fn3 fc3 la3 ln3 lc3 xs (by simp only [Act.put,sA,sB,sC]) (hb) (fun _=>rfl) (fun _=>rfl) (upk hf2 rfl) (upk hC rfl) (upk hf4 rfl) (upk hf5 rfl) (upk hf6 rfl) (fun h=>a_o (hW6 (a_a h (by decide)))) (upk hD rfl) (upk hf8 rfl) (fun h=>a_o (hW8 (a_a h (by decide)))) (upk hf9 rfl) (fun h=>⟨a_o (hS (a_a h (by decide))).1,(hS (a_a h (by decide))).2⟩) (upk hf11 rfl)
         refine StepsL.cons (k:=2) rfl (fun listed a1 w1 hI hn hw K hK=>?_) ?_
         ·cases hI with | mk p42 p43 p44 p45 p46 p47 p48 p49 p50 p51 p7 fa2 fc2 la2 lc2 fa3 fn3 fc3 la3 ln3 lc3 xs ea hb hf0 hf1 hf2 hC hf4 hf5 hf6 hW6 hD hf8 hW8 hf9 hS hf11 =>
           have Hhb:=hid hb;have HH_:=N58;clear hf0 hf1 hf2 hC hf4 hf5 hf6 hW6 hD hf8 hW8 hf9 hS hf11 hb hw;rw [ea];clear ea;simp only [Act.put,sA,sB,sC];refine c_F (by rfl) ?_;refine wp_load_mid 46 _ rfl w.heap.size 0 rfl (thC t fa fn fc la ln lc) _ (a_f Hhb.out.2.1) Tryz.underlying46 rfl (by kernel_rfl) ?_;obtain ⟨hf0,hf1,hf2,hC,hf4,hf5,hf6,hW6,hD,hf8,hW8,hf9,hS,hf11,hw⟩:=HH_.out;have hb:=Hhb.out;refine hK.out _ _ ?_;exact .mk p42 p43 (.agg (thC t fa fn fc la ln lc).toArray) p45 p46 p47 p48 p49 p50 p51 p7 fa2 fc2 la2 lc2 fa3 fn3 fc3 la3 ln3 lc3 xs (by simp only [Act.put,sA,sB,sC]) (hb) (upk hf0 rfl) (upk hf1 rfl) (fun _=>rfl) (upk hC rfl) (upk hf4 rfl) (upk hf5 rfl) (upk hf6 rfl) (fun h=>a_o (hW6 (a_a h (by decide)))) (upk hD rfl) (upk hf8 rfl) (fun h=>a_o (hW8 (a_a h (by decide)))) (upk hf9 rfl) (fun h=>⟨a_o (hS (a_a h (by decide))).1,(hS (a_a h (by decide))).2⟩) (upk hf11 rfl)
         refine StepsL.cons (k:=3) rfl (fun listed a1 w1 hI hn hw K hK=>?_) ?_
         ·cases hI with | mk p42 p43 p44 p45 p46 p47 p48 p49 p50 p51 p7 fa2 fc2 la2 lc2 fa3 fn3 fc3 la3 ln3 lc3 xs ea hb hf0 hf1 hf2 hC hf4 hf5 hf6 hW6 hD hf8 hW8 hf9 hS hf11 =>
           have e_f2:=hf2 (hw 2 (by decide));subst e_f2;have HSZ1:w4.heap.size≤w1.heap.size:=hb.1.size;have Hhb:=hid hb;have HH_:=N58;clear hf0 hf1 hf2 hC hf4 hf5 hf6 hW6 hD hf8 hW8 hf9 hS hf11 hb hw;rw [ea];clear ea;simp only [Act.put,sA,sB,sC];refine c_F (by rfl) ?_;refine a_O _ _ _ rfl 117 rfl [.agg (thC t fa fn fc la ln lc).toArray] rfl (by kernel_rfl) ((j_k t fa la fn fc ln lc w1 (d_a (HFB.out.trans Hhb.out.1) HF.out) HL.out.1 HL.out.2).mono ?_);rintro e w2 ⟨fa9,fc9,la9,lc9,rfl,d1,-,d2,d3,d4,hb2⟩;rw [HN.out.1] at d1 d2 ⊢;rw [HN.out.2] at d3 d4 ⊢;refine ⟨_,rfl,?_⟩;obtain ⟨hf0,hf1,hf2,hC,hf4,hf5,hf6,hW6,hD,hf8,hW8,hf9,hS,hf11,hw⟩:=HH_.out;have hb:=Hhb.out;refine hK.out _ _ ?_;exact .mk p42 p43 (.agg (thC t fa fn fc la ln lc).toArray) (.agg (thC t fa9 fn fc9 la9 ln lc9).toArray) p46 p47 p48 p49 p50 p51 p7 fa9 fc9 la9 lc9 fa3 fn3 fc3 la3 ln3 lc3 xs (by simp only [Act.put,sA,sB,sC]) (⟨hb.1.trans (hb2.mono (Nat.le_of_lt (a_P hb.2.1 (by simp)))),a_i hb2 hb.2.1,a_i hb2 hb.2.2.1,a_i hb2 hb.2.2.2.1,a_i hb2 hb.2.2.2.2.1,hb.2.2.2.2.2⟩) (upk hf0 rfl) (upk hf1 rfl) (fun _=>rfl) (fun _=>⟨rfl,d1,b_e (fun b hq=>Nat.le_trans HSZ1 hq) d2,d3,b_e (fun b hq=>Nat.le_trans HSZ1 hq.1) d4⟩) (upk hf4 rfl) (upk hf5 rfl) (fun h=>absurd (hW6 (a_a h (by decide))) hn) (fun h=>a_o (hW6 (a_a h (by decide)))) (fun h=>⟨(hD (a_a h (by decide))).1,a_w (a_C hb2) (hD (a_a h (by decide))).2⟩) (upk hf8 rfl) (fun h=>a_o (hW8 (a_a h (by decide)))) (upk hf9 rfl) (fun h=>⟨a_o (hS (a_a h (by decide))).1,(hS (a_a h (by decide))).2⟩) (upk hf11 rfl)
         refine StepsL.cons (k:=4) rfl (fun listed a1 w1 hI hn hw K hK=>?_) ?_
         ·cases hI with | mk p42 p43 p44 p45 p46 p47 p48 p49 p50 p51 p7 fa2 fc2 la2 lc2 fa3 fn3 fc3 la3 ln3 lc3 xs ea hb hf0 hf1 hf2 hC hf4 hf5 hf6 hW6 hD hf8 hW8 hf9 hS hf11 =>
           have HH_:=N19;clear hf0 hf1 hf2 hC hf4 hf5 hf6 hW6 hD hf8 hW8 hf9 hS hf11 hb hw;rw [ea];clear ea;simp only [Act.put,sA,sB,sC]
           go_simp
           obtain ⟨hf0,hf1,hf2,hC,hf4,hf5,hf6,hW6,hD,hf8,hW8,hf9,hS,hf11,hb,hw⟩:=HH_.out;refine hK.out _ _ ?_;exact .mk p42 p43 p44 p45 (.int .i64 self) p47 p48 p49 p50 p51 p7 fa2 fc2 la2 lc2 fa3 fn3 fc3 la3 ln3 lc3 xs (by simp only [Act.put,sA,sB,sC]) (hb) (upk hf0 rfl) (upk hf1 rfl) (upk hf2 rfl) (upk hC rfl) (fun _=>rfl) (upk hf5 rfl) (upk hf6 rfl) (fun h=>a_o (hW6 (a_a h (by decide)))) (upk hD rfl) (upk hf8 rfl) (fun h=>a_o (hW8 (a_a h (by decide)))) (upk hf9 rfl) (fun h=>⟨a_o (hS (a_a h (by decide))).1,(hS (a_a h (by decide))).2⟩) (upk hf11 rfl)
         refine StepsL.cons (k:=5) rfl (fun listed a1 w1 hI hn hw K hK=>?_) ?_
         ·cases hI with | mk p42 p43 p44 p45 p46 p47 p48 p49 p50 p51 p7 fa2 fc2 la2 lc2 fa3 fn3 fc3 la3 ln3 lc3 xs ea hb hf0 hf1 hf2 hC hf4 hf5 hf6 hW6 hD hf8 hW8 hf9 hS hf11 =>
           have Hhb:=hid hb;have HH_:=N58;clear hf0 hf1 hf2 hC hf4 hf5 hf6 hW6 hD hf8 hW8 hf9 hS hf11 hb hw;rw [ea];clear ea;simp only [Act.put,sA,sB,sC];refine c_F (by rfl) ?_;refine wp_load_mid 66 _ rfl (w.heap.size+1) 0 rfl [.int .i64 i.1,.int .i64 i.2.1,.int .i64 i.2.2.1,.int .i64 i.2.2.2] _ (a_f Hhb.out.2.2.1) Tryz.underlying66 rfl (by kernel_rfl) ?_;obtain ⟨hf0,hf1,hf2,hC,hf4,hf5,hf6,hW6,hD,hf8,hW8,hf9,hS,hf11,hw⟩:=HH_.out;have hb:=Hhb.out;refine hK.out _ _ ?_;exact .mk p42 p43 p44 p45 p46 (.agg #[.int .i64 i.1,.int .i64 i.2.1,.int .i64 i.2.2.1,.int .i64 i.2.2.2]) p48 p49 p50 p51 p7 fa2 fc2 la2 lc2 fa3 fn3 fc3 la3 ln3 lc3 xs (by simp only [Act.put,sA,sB,sC]) (hb) (upk hf0 rfl) (upk hf1 rfl) (upk hf2 rfl) (upk hC rfl) (upk hf4 rfl) (fun _=>rfl) (upk hf6 rfl) (fun h=>a_o (hW6 (a_a h (by decide)))) (upk hD rfl) (upk hf8 rfl) (fun h=>a_o (hW8 (a_a h (by decide)))) (upk hf9 rfl) (fun h=>⟨a_o (hS (a_a h (by decide))).1,(hS (a_a h (by decide))).2⟩) (upk hf11 rfl)
         refine StepsL.cons (k:=6) rfl (fun listed a1 w1 hI hn hw K hK=>?_) ?_
         ·cases hI with | mk p42 p43 p44 p45 p46 p47 p48 p49 p50 p51 p7 fa2 fc2 la2 lc2 fa3 fn3 fc3 la3 ln3 lc3 xs ea hb hf0 hf1 hf2 hC hf4 hf5 hf6 hW6 hD hf8 hW8 hf9 hS hf11 =>
           have e_f4:=hf4 (hw 4 (by decide));have e_f5:=hf5 (hw 5 (by decide));subst e_f4 e_f5;obtain ⟨e45,hC2⟩:=hC (hw 3 (by decide));subst e45;have HH_:=N19;clear hf0 hf1 hf2 hC hf4 hf5 hf6 hW6 hD hf8 hW8 hf9 hS hf11 hb hw;rw [ea];clear ea;simp only [Act.put,sA,sB,sC]
           go_simp
           obtain ⟨hf0,hf1,hf2,hC,hf4,hf5,hf6,hW6,hD,hf8,hW8,hf9,hS,hf11,hb,hw⟩:=HH_.out;refine hK.out _ _ ?_;exact .mk p42 p43 p44 (.agg (thC t fa2 fn fc2 la2 ln lc2).toArray) (.int .i64 self) (.agg #[.int .i64 i.1,.int .i64 i.2.1,.int .i64 i.2.2.1,.int .i64 i.2.2.2]) (.agg (tkC t fa2 fn fc2 la2 ln lc2 self i).toArray) p49 p50 p51 p7 fa2 fc2 la2 lc2 fa3 fn3 fc3 la3 ln3 lc3 xs (by simp only [Act.put,sA,sB,sC]) (hb) (upk hf0 rfl) (upk hf1 rfl) (upk hf2 rfl) (fun _=>⟨rfl,hC2⟩) (fun _=>rfl) (fun _=>rfl) (fun _=>rfl) (fun _=>a_o (hw 3 (by decide))) (upk hD rfl) (upk hf8 rfl) (fun h=>a_o (hW8 (a_a h (by decide)))) (upk hf9 rfl) (fun h=>⟨a_o (hS (a_a h (by decide))).1,(hS (a_a h (by decide))).2⟩) (upk hf11 rfl)
         refine StepsL.cons (k:=7) rfl (fun listed a1 w1 hI hn hw K hK=>?_) ?_
         ·cases hI with | mk p42 p43 p44 p45 p46 p47 p48 p49 p50 p51 p7 fa2 fc2 la2 lc2 fa3 fn3 fc3 la3 ln3 lc3 xs ea hb hf0 hf1 hf2 hC hf4 hf5 hf6 hW6 hD hf8 hW8 hf9 hS hf11 =>
           have e_f1:=hf1 (hw 1 (by decide));have e_f6:=hf6 (hw 6 (by decide));subst e_f1 e_f6;obtain ⟨e45,hC2⟩:=hC (hW6 (hw 6 (by decide)));have HSZ1:w4.heap.size≤w1.heap.size:=hb.1.size;have HH_:=N19;clear hf0 hf1 hf2 hC hf4 hf5 hf6 hW6 hD hf8 hW8 hf9 hS hf11 hb hw;rw [ea];clear ea;simp only [Act.put,sA,sB,sC];refine c_F (by rfl) ?_;have h0:=q_h (fun b=>w4.heap.size≤b) t self i k fa2 la2 fn fc2 ln lc2 w1 HK.out HKK.out.1 HKK.out.2 HFI.out HRT.out hC2 (fun b hq=>Nat.le_trans HSZ1 hq);rw [HZ.out,HXE.out] at h0;refine a_O _ _ _ rfl (fk k) rfl [.agg (tkC t fa2 fn fc2 la2 ln lc2 self i).toArray] rfl (s_m k HKK.out.1 HKK.out.2) (h0.mono ?_);rintro e w2 ⟨fa9,fn9,fc9,la9,ln9,lc9,rfl,hq9,hb2⟩;refine ⟨_,rfl,?_⟩;obtain ⟨hf0,hf1,hf2,hC,hf4,hf5,hf6,hW6,hD,hf8,hW8,hf9,hS,hf11,hb,hw⟩:=HH_.out;refine hK.out _ _ ?_;exact .mk p42 (.func (.func (fk k)) #[] #[]) p44 p45 p46 p47 (.agg (tkC t fa2 fn fc2 la2 ln lc2 self i).toArray) (.tuple #[.agg (thC z fa9 fn9 fc9 la9 ln9 lc9).toArray,.int .i64 x]) p50 p51 p7 fa2 fc2 la2 lc2 fa9 fn9 fc9 la9 ln9 lc9 xs (by simp only [Act.put,sA,sB,sC]) (⟨hb.1.trans (hb2.mono (Nat.le_of_lt (a_P hb.2.1 (by simp)))),a_i hb2 hb.2.1,a_i hb2 hb.2.2.1,a_i hb2 hb.2.2.2.1,a_i hb2 hb.2.2.2.2.1,hb.2.2.2.2.2⟩) (upk hf0 rfl) (fun _=>rfl) (upk hf2 rfl) (fun h=>⟨(hC (a_a h (by decide))).1,a_w (a_C hb2) (hC (a_a h (by decide))).2⟩) (upk hf4 rfl) (upk hf5 rfl) (fun _=>rfl) (fun h=>a_o (hW6 (a_a h (by decide)))) (fun _=>⟨rfl,hq9⟩) (fun h=>absurd (hW8 (a_a h (by decide))) hn) (fun h=>a_o (hW8 (a_a h (by decide)))) (upk hf9 rfl) (fun h=>absurd (hS (a_a h (by decide))).1 hn) (upk hf11 rfl)
         refine StepsL.cons (k:=8) rfl (fun listed a1 w1 hI hn hw K hK=>?_) ?_
         ·cases hI with | mk p42 p43 p44 p45 p46 p47 p48 p49 p50 p51 p7 fa2 fc2 la2 lc2 fa3 fn3 fc3 la3 ln3 lc3 xs ea hb hf0 hf1 hf2 hC hf4 hf5 hf6 hW6 hD hf8 hW8 hf9 hS hf11 =>
           obtain ⟨e49,hD2⟩:=hD (hw 7 (by decide));subst e49;have HH_:=N19;clear hf0 hf1 hf2 hC hf4 hf5 hf6 hW6 hD hf8 hW8 hf9 hS hf11 hb hw;rw [ea];clear ea;simp only [Act.put,sA,sB,sC]
           go_simp
           obtain ⟨hf0,hf1,hf2,hC,hf4,hf5,hf6,hW6,hD,hf8,hW8,hf9,hS,hf11,hb,hw⟩:=HH_.out;refine hK.out _ _ ?_;exact .mk p42 p43 p44 p45 p46 p47 p48 (.tuple #[.agg (thC z fa3 fn3 fc3 la3 ln3 lc3).toArray,.int .i64 x]) (.agg (thC z fa3 fn3 fc3 la3 ln3 lc3).toArray) p51 p7 fa2 fc2 la2 lc2 fa3 fn3 fc3 la3 ln3 lc3 xs (by simp only [Act.put,sA,sB,sC]) (hb) (upk hf0 rfl) (upk hf1 rfl) (upk hf2 rfl) (upk hC rfl) (upk hf4 rfl) (upk hf5 rfl) (upk hf6 rfl) (fun h=>a_o (hW6 (a_a h (by decide)))) (fun _=>⟨rfl,hD2⟩) (fun _=>rfl) (fun _=>a_o (hw 7 (by decide))) (upk hf9 rfl) (fun h=>⟨a_o (hS (a_a h (by decide))).1,(hS (a_a h (by decide))).2⟩) (upk hf11 rfl)
         refine StepsL.cons (k:=9) rfl (fun listed a1 w1 hI hn hw K hK=>?_) ?_
         ·cases hI with | mk p42 p43 p44 p45 p46 p47 p48 p49 p50 p51 p7 fa2 fc2 la2 lc2 fa3 fn3 fc3 la3 ln3 lc3 xs ea hb hf0 hf1 hf2 hC hf4 hf5 hf6 hW6 hD hf8 hW8 hf9 hS hf11 =>
           obtain ⟨e49,hD2⟩:=hD (hw 7 (by decide));subst e49;have HH_:=N19;clear hf0 hf1 hf2 hC hf4 hf5 hf6 hW6 hD hf8 hW8 hf9 hS hf11 hb hw;rw [ea];clear ea;simp only [Act.put,sA,sB,sC]
           go_simp
           obtain ⟨hf0,hf1,hf2,hC,hf4,hf5,hf6,hW6,hD,hf8,hW8,hf9,hS,hf11,hb,hw⟩:=HH_.out;refine hK.out _ _ ?_;exact .mk p42 p43 p44 p45 p46 p47 p48 (.tuple #[.agg (thC z fa3 fn3 fc3 la3 ln3 lc3).toArray,.int .i64 x]) p50 (.int .i64 x) p7 fa2 fc2 la2 lc2 fa3 fn3 fc3 la3 ln3 lc3 xs (by simp only [Act.put,sA,sB,sC]) (hb) (upk hf0 rfl) (upk hf1 rfl) (upk hf2 rfl) (upk hC rfl) (upk hf4 rfl) (upk hf5 rfl) (upk hf6 rfl) (fun h=>a_o (hW6 (a_a h (by decide)))) (fun _=>⟨rfl,hD2⟩) (upk hf8 rfl) (fun h=>a_o (hW8 (a_a h (by decide)))) (fun _=>rfl) (fun h=>⟨a_o (hS (a_a h (by decide))).1,(hS (a_a h (by decide))).2⟩) (upk hf11 rfl)
         refine StepsL.cons (k:=10) rfl (fun listed a1 w1 hI hn hw K hK=>?_) ?_
         ·cases hI with | mk p42 p43 p44 p45 p46 p47 p48 p49 p50 p51 p7 fa2 fc2 la2 lc2 fa3 fn3 fc3 la3 ln3 lc3 xs ea hb hf0 hf1 hf2 hC hf4 hf5 hf6 hW6 hD hf8 hW8 hf9 hS hf11 =>
           have e_f8:=hf8 (hw 8 (by decide));subst e_f8;have hup7:=hW8 (hw 8 (by decide));have HSZ1:w.heap.size+2 < w4.heap.size∧w.heap.size≤v∧v≠w.heap.size∧v≠w.heap.size+1∧v≠w.heap.size+2:=HGV.out;have Hhb:=hid hb;have HH_:=N58;clear hf0 hf1 hf2 hC hf4 hf5 hf6 hW6 hD hf8 hW8 hf9 hS hf11 hb hw;rw [ea];clear ea;simp only [Act.put,sA,sB,sC];refine c_F (by rfl) ?_;refine a_0 46 _ _ rfl (w.heap.size+2) (thC z fa3 fn3 fc3 la3 ln3 lc3).toArray rfl rfl xs Hhb.out.2.2.2.2.1 Hhb.out.2.2.2.2.2.symm (by kernel_rfl) (a_K _ _ _ _ _ _ _) ?_;intro U HU;obtain ⟨hf0,hf1,hf2,hC,hf4,hf5,hf6,hW6,hD,hf8,hW8,hf9,hS,hf11,hw⟩:=HH_.out;have hb:=Hhb.out;refine hK.out _ _ ?_;exact .mk p42 p43 p44 p45 p46 p47 p48 p49 (.agg (thC z fa3 fn3 fc3 la3 ln3 lc3).toArray) p51 p7 fa2 fc2 la2 lc2 fa3 fn3 fc3 la3 ln3 lc3 (thC z fa3 fn3 fc3 la3 ln3 lc3) (by simp only [Act.put,sA,sB,sC]) (⟨a_y HU (by omega) hb.1,by rw [HU.out];exact a_j (by omega) hb.2.1,by rw [HU.out];exact a_j (by omega) hb.2.2.1,by rw [HU.out];exact a_j (by omega) hb.2.2.2.1,by rw [HU.out];exact a_q (xs:=(thC z fa3 fn3 fc3 la3 ln3 lc3)) hb.2.2.2.2.1 hb.2.2.2.2.2.symm,rfl⟩) (upk hf0 rfl) (upk hf1 rfl) (upk hf2 rfl) (fun h=>⟨(hC (a_a h (by decide))).1,a_w (by rw [HU.out];exact a_t (fun b hq=>by omega)) (hC (a_a h (by decide))).2⟩) (upk hf4 rfl) (upk hf5 rfl) (upk hf6 rfl) (fun h=>a_o (hW6 (a_a h (by decide)))) (fun h=>⟨(hD (a_a h (by decide))).1,a_w (by rw [HU.out];exact a_t (fun b hq=>by omega)) (hD (a_a h (by decide))).2⟩) (fun _=>rfl) (fun h=>a_o (hW8 (a_a h (by decide)))) (upk hf9 rfl) (fun _=>⟨a_o hup7,rfl⟩) (upk hf11 rfl)
         refine StepsL.cons (k:=11) rfl (fun listed a1 w1 hI hn hw K hK=>?_) ?_
         ·cases hI with | mk p42 p43 p44 p45 p46 p47 p48 p49 p50 p51 p7 fa2 fc2 la2 lc2 fa3 fn3 fc3 la3 ln3 lc3 xs ea hb hf0 hf1 hf2 hC hf4 hf5 hf6 hW6 hD hf8 hW8 hf9 hS hf11 =>
           have e_f9:=hf9 (hw 9 (by decide));subst e_f9;have HH_:=N19;clear hf0 hf1 hf2 hC hf4 hf5 hf6 hW6 hD hf8 hW8 hf9 hS hf11 hb hw;rw [ea];clear ea;simp only [Act.put,sA,sB,sC]
           go_simp
           obtain ⟨hf0,hf1,hf2,hC,hf4,hf5,hf6,hW6,hD,hf8,hW8,hf9,hS,hf11,hb,hw⟩:=HH_.out;refine hK.out _ _ ?_;exact .mk p42 p43 p44 p45 p46 p47 p48 p49 p50 (.int .i64 x) (.int .i64 x) fa2 fc2 la2 lc2 fa3 fn3 fc3 la3 ln3 lc3 xs (by simp only [Act.put,sA,sB,sC]) (hb) (upk hf0 rfl) (upk hf1 rfl) (upk hf2 rfl) (upk hC rfl) (upk hf4 rfl) (upk hf5 rfl) (upk hf6 rfl) (fun h=>a_o (hW6 (a_a h (by decide)))) (upk hD rfl) (upk hf8 rfl) (fun h=>a_o (hW8 (a_a h (by decide)))) (fun _=>rfl) (fun h=>⟨a_o (hS (a_a h (by decide))).1,(hS (a_a h (by decide))).2⟩) (fun _=>rfl)
         exact StepsL.nil
        ·intro listed a1 w5 hI hu
         cases hI with | mk p42 p43 p44 p45 p46 p47 p48 p49 p50 p51 p7 fa2 fc2 la2 lc2 fa3 fn3 fc3 la3 ln3 lc3 xs ea hb hf0 hf1 hf2 hC hf4 hf5 hf6 hW6 hD hf8 hW8 hf9 hS hf11 =>
          obtain ⟨-,hxs⟩:=hS (hu 10);have hD2:=(hD (hu 7)).2;have h11:=hf11 (hu 11);subst hxs h11;have HB5:=hid (HFB.out.trans hb.1);have HR5:=hid hb.2.2.2.2.1;have HD5:=hid (b_y (fun b hq=>Nat.le_trans HFB.out.size hq) hD2);clear hf0 hf1 hf2 hC hf4 hf5 hf6 hW6 hD hf8 hW8 hf9 hS hf11 hb hu hD2;rw [ea];clear ea;simp only [Act.put,sA,sB,sC]
          go_wp2
          refine a_l ⟨w.heap.size+2,0,none⟩ rfl rfl rfl (b_r _ _ z fa3 la3 fn3 fc3 ln3 lc3 HR5.out) ?_;have hE:apE t self i=x:=HA2.out (by rw [if_neg (by rw [HFI.out];decide)];exact HXE.out)
          by_cases hx0:x=0
          ·have hT0:apT t self i=z:=by rw [apT,hE,if_pos hx0,HZ.out]
           rw [hE,hT0];exact e_c HD5.out.fs.1 HD5.out.lf.1 HD5.out HB5.out
          ·have hT0:apT t self i=z:=by
            rw [apT,hE,if_neg hx0,←HZ.out];exact (t_I (by rw [HXE.out];exact hx0)).symm
           rw [hE,hT0];exact e_c HD5.out.fs.1 HD5.out.lf.1 HD5.out HB5.out
       ·have HE:=hid (show apE t self i=3 from HA2.out (by rw [if_pos (by simpa using hfi)]));have HFI:=hid (show c_3 i=false by simpa using hfi);clear hfi
        go_wp2_with (refine wpList_load_mid rfl 66 _ rfl (w.heap.size+1) 0 rfl [.int .i64 i.1,.int .i64 i.2.1,.int .i64 i.2.2.1,.int .i64 i.2.2.2] _ (a_f HI3.out) Tryz.underlying66 rfl (by kernel_rfl) ?_)
        have h0:=l_F i (h_Z k) w3 (p_k k);refine h0.mono ?_;clear h0;rintro e w4 ⟨rfl,hb4⟩;rw [show g_y i (h_Z k)=false by have h:=HFI.out;rw [c_3,HK.out] at h;exact h];have HB4:=hid (a_b HB3.out hb4);have HR4:=hid (a_i hb4 HR3.out);clear hb4 kv
        go_wp2_with (refine a_c rfl 46 _ _ rfl (w.heap.size+2) thN.toArray rfl rfl _ HR4.out rfl (by kernel_rfl) (a_K d_E none none 0 0 0 0) ?_;intro U HU)
        refine a_l ⟨w.heap.size+2,0,none⟩ rfl rfl rfl (a_Q (t:=d_E) HU HR4.out rfl) ?_;exact b_X (h_N (by rw [HE.out];decide)) HE.out (a_y HU (by omega) HB4.out)
   ·have HE:=hid (show apE t self i=9 by rw [apE,if_neg (fun h1=>h1.elim (fun h1=>by rw [hm'.out] at h1;cases h1) HPC.out),if_pos (by simpa using hy)]);have hy':=hid (show d_1 t=false by simpa using hy);clear hy
    go_wp2_with (refine wpList_load_mid rfl 46 _ rfl w.heap.size 0 rfl (thC t fa fn fc la ln lc) _ (a_f HX1.out) Tryz.underlying46 rfl (by kernel_rfl) ?_)
    refine (g_5 t fa la fn fc ln lc _ HFl.out.2).mono ?_;rintro e w2 ⟨rfl,hb2⟩;rw [hy'.out];have HB2:=hid (a_b HB1.out hb2);have HR2:=hid (a_i hb2 HR1.out);clear hb2 HX1 HI1 HR1 HB1 k0 hpb;exact J43
 ·have HE:=hid (show apE t self i=1 by rw [apE,if_pos (.inl (by simpa using hm))]);have hm':=hid (show f_J t self=false by simpa using hm);clear hm
  go_wp2_with (refine wpList_load_mid rfl 46 _ rfl w.heap.size 0 rfl (thC t fa fn fc la ln lc) _ (a_f HX.out) Tryz.underlying46 rfl (by kernel_rfl) ?_)
  refine (j_l t self fa la fn fc ln lc W HFW.out).mono ?_;rintro e w1 ⟨rfl,hb1⟩;rw [hm'.out];have HB1:=hid (a_b HB.out hb1);have HR1:=hid (a_i hb1 HR.out);clear hb1 HX HI HR HFW HB k0;exact J66
end Go.Proofs.YtogdpojnbgeknaaGreatDoor
