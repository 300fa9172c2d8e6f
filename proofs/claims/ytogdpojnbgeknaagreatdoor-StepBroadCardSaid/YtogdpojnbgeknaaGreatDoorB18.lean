import Derived.Test.YtogdpojnbgeknaaGreatDoorB10
import Derived.Test.YtogdpojnbgeknaaGreatDoorB17
import Derived.Test.YtogdpojnbgeknaaGreatDoorB0
import Derived.Defers
import Derived.Recover
import Derived.StillTailTactics
import Derived.Test.YtogdpojnbgeknaaGreatDoorB13
set_option maxRecDepth 100000
set_option maxHeartbeats 16000000
namespace Go.Proofs.YtogdpojnbgeknaaGreatDoor
open Go.ChangeShapes Go.WideShapes Go.ChangeAt Go.RowKit
open Gen
open Lib (hid)
inductive InvA (t:Thr) (i:In4) (k g:Nat) (fa la:Option Addr) (fn fc ln lc:Nat) (a0:Act) (w0:World) (listed:Array Bool) (act':Act) (w':World):Prop
 | mk (p32 p33 p34 p35 p8:Value) (v:Nat) (c0:Value) (c1:Value) (ea:act'=(((((a0.put (some 32) p32).put (some 33) p33).put (some 34) p34).put (some 35) p35).put (some 8) p8)) (hb:Below g w0 w'∧a_p w' g (thC t fa fn fc la ln lc)∧a_p w' (g+1) [.int .i64 i.1,.int .i64 i.2.1,.int .i64 i.2.2.1,.int .i64 i.2.2.2]∧a_p w' (g+2) thN) (hf0:Up listed 0→p32=.agg opsL.toArray) (hf1:Up listed 1→p33=.pointer (some ⟨g+1,0,none⟩)) (hf2:Up listed 2→p34=.int .i64 (k:Nat)) (hf3:Up listed 3→p35=.agg #[.string ⟨(i_c k).toArray⟩,.func (.func (fk k)) #[] #[]]) (hA:Up listed 4→p8=.pointer (some ⟨v,0,none⟩)∧g+3≤v∧a_p w' v [c0,c1]) (hT:Up listed 5→Up listed 4∧c0=.string ⟨(i_c k).toArray⟩∧c1=.func (.func (fk k)) #[] #[]):InvA t i k g fa la fn fc ln lc a0 w0 listed act' w'
inductive InvB (t:Thr) (self:Int) (i:In4) (k g v:Nat) (fa la:Option Addr) (fn fc ln lc:Nat) (z:Thr) (x:Int) (a0:Act) (w0:World) (listed:Array Bool) (act':Act) (w':World):Prop
 | mk (p42 p43 p44 p45 p46 p47 p48 p49 p50 p51 p7:Value) (fa2:Option Addr) (fc2:Nat) (la2:Option Addr) (lc2:Nat) (fa3:Option Addr) (fn3:Nat) (fc3:Nat) (la3:Option Addr) (ln3:Nat) (lc3:Nat) (xs:List Value) (ea:act'=(((((((((((a0.put (some 42) p42).put (some 43) p43).put (some 44) p44).put (some 45) p45).put (some 46) p46).put (some 47) p47).put (some 48) p48).put (some 49) p49).put (some 50) p50).put (some 51) p51).put (some 7) p7)) (hb:Below g w0 w'∧a_p w' g (thC t fa fn fc la ln lc)∧a_p w' (g+1) [.int .i64 i.1,.int .i64 i.2.1,.int .i64 i.2.2.1,.int .i64 i.2.2.2]∧a_p w' v [.string ⟨(i_c k).toArray⟩,.func (.func (fk k)) #[] #[]]∧a_p w' (g+2) xs∧xs.length=13) (hf0:Up listed 0→p42=.pointer (some ⟨v,1,none⟩)) (hf1:Up listed 1→p43=.func (.func (fk k)) #[] #[]) (hf2:Up listed 2→p44=.agg (thC t fa fn fc la ln lc).toArray) (hC:Up listed 3→p45=.agg (thC t fa2 fn fc2 la2 ln lc2).toArray∧ThQ (fun b=>w0.heap.size≤b) w' fa2 fn fc2 la2 ln lc2 t) (hf4:Up listed 4→p46=.int .i64 self) (hf5:Up listed 5→p47=.agg #[.int .i64 i.1,.int .i64 i.2.1,.int .i64 i.2.2.1,.int .i64 i.2.2.2]) (hf6:Up listed 6→p48=.agg (tkC t fa2 fn fc2 la2 ln lc2 self i).toArray) (hW6:Up listed 6→Up listed 3) (hD:Up listed 7→p49=.tuple #[.agg (thC z fa3 fn3 fc3 la3 ln3 lc3).toArray,.int .i64 x]∧ThQ (fun b=>w0.heap.size≤b) w' fa3 fn3 fc3 la3 ln3 lc3 z) (hf8:Up listed 8→p50=.agg (thC z fa3 fn3 fc3 la3 ln3 lc3).toArray) (hW8:Up listed 8→Up listed 7) (hf9:Up listed 9→p51=.int .i64 x) (hS:Up listed 10→Up listed 7∧xs=(thC z fa3 fn3 fc3 la3 ln3 lc3)) (hf11:Up listed 11→p7=.int .i64 x):InvB t self i k g v fa la fn fc ln lc z x a0 w0 listed act' w'
theorem t_6 {t:Thr} {self:Int} {i:In4} (h:doE t i≠0):doT t self i=d_z:=by
 unfold doE at h
 split at h
 ·rename_i h13
  rw [doT,if_neg (by omega),if_neg (by omega),if_neg (by omega),if_pos h13];exact f_N h
 ·split at h
  ·rename_i hn h14
   rw [doT,if_neg (by omega),if_neg (by omega),if_neg (by omega),if_neg hn,if_pos h14];exact i_A h
  ·exact absurd rfl h
theorem n_T (t:Thr) (self:Int) (i:In4) (fa la:Option Addr) (fn fc ln lc:Nat) (w:World) (F:ThF w fa fn fc la ln lc t) :
  Calls Tryz.prog 93 #[.agg (thC t fa fn fc la ln lc).toArray,.int .i64 self,.agg #[.int .i64 i.1,.int .i64 i.2.1,.int .i64 i.2.2.1,.int .i64 i.2.2.2]] w (ThPostF (apT t self i) (apE t self i) w):=by
 obtain ⟨W,hW⟩:=nm (((w.alloc (Obj.cells (thC t fa fn fc la ln lc).toArray 46)).alloc (Obj.cells #[.int .i64 i.1,.int .i64 i.2.1,.int .i64 i.2.2.1,.int .i64 i.2.2.2] 66)).alloc (Obj.cells thN.toArray 46));have X:=N4;have IV:a_p W (w.heap.size+1) [.int .i64 i.1,.int .i64 i.2.1,.int .i64 i.2.2.1,.int .i64 i.2.2.2]:=by rw [hW];exact a_s _ (a_e [.int .i64 i.1,.int .i64 i.2.1,.int .i64 i.2.2.1,.int .i64 i.2.2.2] _ (by simp))
 have R:=N13;have hB:=N2;have hF:ThF W fa fn fc la ln lc t:=d_b hB F;have HFl:=N49;have ⟨HX,HI,HR,HB,HW,HF,HFW,HFB⟩:=hh8 X IV R hB hW F hF hB;clear hW X IV R hB F hF
 go_enter Tryz.func93,Tryz.ntmps93
 go_upto_region 1 with fail
 rw [←HW.out];have k0:=(HX.out 0 _ rfl).1
 by_cases hm:f_S t self=true
 ·have hm':=hid hm;have hr:Hid (a_R t=true):=by simp only [f_S,Bool.and_eq_true] at hm;exact hm.1
  clear hm
  go_wp2_with (refine wpList_load_mid rfl 46 _ rfl w.heap.size 0 rfl (thC t fa fn fc la ln lc) _ (a_f HX.out) Tryz.underlying46 rfl (by kernel_rfl) ?_)
  refine (j_I t self fa la fn fc ln lc W HFW.out).mono ?_;rintro e w1 ⟨rfl,hb1⟩;rw [hm'.out];have HB1:=hid (a_a HB.out hb1);have HX1:=hid (a_h hb1 HX.out);have HI1:=hid (a_h hb1 HI.out);have HR1:=hid (a_h hb1 HR.out);clear hb1 HX HI HR HFW HB k0;have k0:=(HX1.out 0 _ rfl).1
  by_cases hp:t.pc=1000
  ·have HE:=hid (show apE t self i=1 by rw [apE,if_pos (.inr hp)]);rw [hp] at k0;clear hp;exact J68
  ·have hpb:(t.pc==1000)=false:=by simpa using hp
   have HPC:=hid hp;clear hp
   by_cases hy:d_7 t=true
   ·have hy':=hid hy;clear hy
    go_wp2_with (refine wpList_load_mid rfl 46 _ rfl w.heap.size 0 rfl (thC t fa fn fc la ln lc) _ (a_f HX1.out) Tryz.underlying46 rfl (by kernel_rfl) ?_)
    refine (h_h t fa la fn fc ln lc _ HFl.out.2).mono ?_;rintro e w2 ⟨rfl,hb2⟩;rw [hy'.out];have HB2:=hid (a_a HB1.out hb2);have HX2:=hid (a_h hb2 HX1.out);have HI2:=hid (a_h hb2 HI1.out);have HR2:=hid (a_h hb2 HR1.out);clear hb2 HX1 HI1 HR1 HB1 k0 hpb;have j0:=(HI2.out 0 _ rfl).1
    have HA:Hid (∀ {y:Int},(if i.1 < 1∨15 < i.1 then 10 else if c_6 i=false then 3 else doE t i)=y→apE t self i=y):=fun h=>by
     rw [apE,if_neg (fun h1=>h1.elim (fun h1=>by rw [hm'.out] at h1;cases h1) HPC.out),if_neg (by rw [hy'.out];decide)];exact h
    by_cases ho:i.1 < 1∨15 < i.1
    ·have HE:=hid (show apE t self i=10 from HA.out (if_pos ho))
     rcases ho with ho | ho
     ·have HO:=ho;exact J44
     ·have ho1:¬ i.1 < 1:=by omega
      exact J44
    ·have ho1:¬ i.1 < 1:=by omega
     have ho2:¬ 15 < i.1:=by omega
     obtain ⟨k,hk⟩:∃ k:Nat,i.1=k:=⟨i.1.toNat,by omega⟩;have HK:=hid hk;have HKK:=hid (show 1≤k∧k≤15 by omega);have HA2:Hid (∀ {y:Int},(if c_6 i=false then 3 else doE t i)=y→apE t self i=y):=fun h=>HA.out (by rw [if_neg ho];exact h)
     clear ho hk HA
     go_upto_region 7 with fail
     clear ho1 ho2 j0;have HX:=HX2;have HI:=HI2;have HR:=HR2;clear HX2 HI2 HR2;refine b_u (InvA t i k w.heap.size fa la fn fc ln lc) (by kernel_rfl) (by kernel_rfl) ?_ ?_ ?_
     ·intro listed hl;exact .mk undef undef undef undef undef 0 undef undef (by simp only [Act.put,sA,sB,sC]) (⟨(Below.refl _ _).drew,b_K HX.out,b_K HI.out,b_K HR.out⟩) (fun h=>absurd h (hl 0 (by decide))) (fun h=>absurd h (hl 1 (by decide))) (fun h=>absurd h (hl 2 (by decide))) (fun h=>absurd h (hl 3 (by decide))) (fun h=>absurd h (hl 4 (by decide))) (fun h=>absurd h (hl 5 (by decide)))
     ·show StepsL _ _ _ _ _ _ _
      refine StepsL.cons (k:=0) rfl (fun listed a1 w1 hI hn hw K hK=>?_) ?_
      ·cases hI with | mk p32 p33 p34 p35 p8 v c0 c1 ea hb hf0 hf1 hf2 hf3 hA hT =>
        have HH_:=N79;clear hf0 hf1 hf2 hf3 hA hT hb hw;rw [ea];clear ea;simp only [Act.put,sA,sB,sC];refine c_H (by rfl) ?_;refine a_Q _ _ _ rfl 115 rfl [] rfl (by kernel_rfl) ((h_O w1).mono ?_);rintro e w2 ⟨rfl,hb2⟩;refine ⟨_,rfl,?_⟩;obtain ⟨hf0,hf1,hf2,hf3,hA,hT,hb,hw⟩:=HH_.out;refine hK.out _ _ ?_;exact .mk (.agg opsL.toArray) p33 p34 p35 p8 v c0 c1 (by simp only [Act.put,sA,sB,sC]) (⟨hb.1.trans (hb2.mono (Nat.le_of_lt (a_N hb.2.1 (by simp)))),a_h hb2 hb.2.1,a_h hb2 hb.2.2.1,a_h hb2 hb.2.2.2⟩) (fun _=>rfl) (upk hf1 rfl) (upk hf2 rfl) (upk hf3 rfl) (fun h=>⟨(hA (a_b h (by decide))).1,(hA (a_b h (by decide))).2.1,a_h hb2 (hA (a_b h (by decide))).2.2⟩) (fun h=>⟨a_o (hT (a_b h (by decide))).1,(hT (a_b h (by decide))).2⟩)
      refine StepsL.cons (k:=1) rfl (fun listed a1 w1 hI hn hw K hK=>?_) ?_
      ·cases hI with | mk p32 p33 p34 p35 p8 v c0 c1 ea hb hf0 hf1 hf2 hf3 hA hT =>
        have HH_:=N79;clear hf0 hf1 hf2 hf3 hA hT hb hw;rw [ea];clear ea;simp only [Act.put,sA,sB,sC]
        go_simp
        obtain ⟨hf0,hf1,hf2,hf3,hA,hT,hb,hw⟩:=HH_.out;refine hK.out _ _ ?_;exact .mk p32 (.pointer (some ⟨w.heap.size+1,0,none⟩)) p34 p35 p8 v c0 c1 (by simp only [Act.put,sA,sB,sC]) (hb) (upk hf0 rfl) (fun _=>rfl) (upk hf2 rfl) (upk hf3 rfl) (upk hA rfl) (fun h=>⟨a_o (hT (a_b h (by decide))).1,(hT (a_b h (by decide))).2⟩)
      refine StepsL.cons (k:=2) rfl (fun listed a1 w1 hI hn hw K hK=>?_) ?_
      ·cases hI with | mk p32 p33 p34 p35 p8 v c0 c1 ea hb hf0 hf1 hf2 hf3 hA hT =>
        have e_f1:=hf1 (hw 1 (by decide));subst e_f1;have kc:=(hb.2.2.1 0 _ rfl).1;rw [HK.out] at kc;have HH_:=N79;clear hf0 hf1 hf2 hf3 hA hT hb hw;rw [ea];clear ea;simp only [Act.put,sA,sB,sC]
        go_simp
        obtain ⟨hf0,hf1,hf2,hf3,hA,hT,hb,hw⟩:=HH_.out;refine hK.out _ _ ?_;exact .mk p32 (.pointer (some ⟨w.heap.size+1,0,none⟩)) (.int .i64 (k:Nat)) p35 p8 v c0 c1 (by simp only [Act.put,sA,sB,sC]) (hb) (upk hf0 rfl) (fun _=>rfl) (fun _=>rfl) (upk hf3 rfl) (upk hA rfl) (fun h=>⟨a_o (hT (a_b h (by decide))).1,(hT (a_b h (by decide))).2⟩)
      refine StepsL.cons (k:=3) rfl (fun listed a1 w1 hI hn hw K hK=>?_) ?_
      ·cases hI with | mk p32 p33 p34 p35 p8 v c0 c1 ea hb hf0 hf1 hf2 hf3 hA hT =>
        have e_f0:=hf0 (hw 0 (by decide));have e_f2:=hf2 (hw 2 (by decide));subst e_f0 e_f2;have HH_:=N79;clear hf0 hf1 hf2 hf3 hA hT hb hw;rw [ea];clear ea;simp only [Act.put,sA,sB,sC];refine c_H (by rfl) ?_;refine r_Q _ _ _ rfl _ _ _ rfl rfl (i_2 k HKK.out.1 HKK.out.2 w1) ?_;obtain ⟨hf0,hf1,hf2,hf3,hA,hT,hb,hw⟩:=HH_.out;refine hK.out _ _ ?_;exact .mk (.agg opsL.toArray) p33 (.int .i64 (k:Nat)) (.agg #[.string ⟨(i_c k).toArray⟩,.func (.func (fk k)) #[] #[]]) p8 v c0 c1 (by simp only [Act.put,sA,sB,sC]) (hb) (fun _=>rfl) (upk hf1 rfl) (fun _=>rfl) (fun _=>rfl) (upk hA rfl) (fun h=>⟨a_o (hT (a_b h (by decide))).1,(hT (a_b h (by decide))).2⟩)
      refine StepsL.cons (k:=4) rfl (fun listed a1 w1 hI hn hw K hK=>?_) ?_
      ·cases hI with | mk p32 p33 p34 p35 p8 v c0 c1 ea hb hf0 hf1 hf2 hf3 hA hT =>
        have HH_:=N79;clear hf0 hf1 hf2 hf3 hA hT hb hw;rw [ea];clear ea;simp only [Act.put,sA,sB,sC];refine c_H (by rfl) ?_
        go_simp
        obtain ⟨hf0,hf1,hf2,hf3,hA,hT,hb,hw⟩:=HH_.out;refine hK.out _ _ ?_;exact .mk p32 p33 p34 p35 (.pointer (some ⟨w1.heap.size,0,none⟩)) w1.heap.size (.string ⟨#[]⟩) .nilFunc (by simp only [Act.put,sA,sB,sC]) (⟨hb.1.alloc (Nat.le_of_lt (a_N hb.2.1 (by simp))) _,a_s _ hb.2.1,a_s _ hb.2.2.1,a_s _ hb.2.2.2⟩) (upk hf0 rfl) (upk hf1 rfl) (upk hf2 rfl) (upk hf3 rfl) (fun _=>⟨rfl,by have:=a_N hb.2.2.2 (by simp);omega,a_e [.string ⟨#[]⟩,.nilFunc] _ rfl⟩) (fun h=>absurd (hT (a_b h (by decide))).1 hn)
      refine StepsL.cons (k:=5) rfl (fun listed a1 w1 hI hn hw K hK=>?_) ?_
      ·cases hI with | mk p32 p33 p34 p35 p8 v c0 c1 ea hb hf0 hf1 hf2 hf3 hA hT =>
        have e_f3:=hf3 (hw 3 (by decide));subst e_f3;obtain ⟨e8,hv3,hV⟩:=hA (hw 4 (by decide));subst e8;have HV9:=hid hV;clear hV;have HH_:=N79;clear hf0 hf1 hf2 hf3 hA hT hb hw;rw [ea];clear ea;simp only [Act.put,sA,sB,sC];refine c_H (by rfl) ?_;refine a_7 162 _ _ rfl v #[.string ⟨(i_c k).toArray⟩,.func (.func (fk k)) #[] #[]] rfl rfl [c0,c1] HV9.out rfl (by kernel_rfl) (by simp [Value.oneCell']) ?_;intro U HU;obtain ⟨hf0,hf1,hf2,hf3,hA,hT,hb,hw⟩:=HH_.out;refine hK.out _ _ ?_;exact .mk p32 p33 p34 (.agg #[.string ⟨(i_c k).toArray⟩,.func (.func (fk k)) #[] #[]]) (.pointer (some ⟨v,0,none⟩)) v (.string ⟨(i_c k).toArray⟩) (.func (.func (fk k)) #[] #[]) (by simp only [Act.put,sA,sB,sC]) (⟨a_x HU (by omega) hb.1,by rw [HU.out];exact a_j (by omega) hb.2.1,by rw [HU.out];exact a_j (by omega) hb.2.2.1,by rw [HU.out];exact a_j (by omega) hb.2.2.2⟩) (upk hf0 rfl) (upk hf1 rfl) (upk hf2 rfl) (fun _=>rfl) (fun _=>⟨rfl,hv3,by rw [HU.out];exact a_q (xs:=[.string ⟨(i_c k).toArray⟩,.func (.func (fk k)) #[] #[]]) HV9.out rfl⟩) (fun _=>⟨a_o (hw 4 (by decide)),rfl,rfl⟩)
      exact StepsL.nil
     ·intro listed a1 w3 hI hu
      cases hI with | mk p32 p33 p34 p35 p8 v c0 c1 ea hb hf0 hf1 hf2 hf3 hA hT =>
       obtain ⟨e8,hv3,hV⟩:=hA (hu 4);obtain ⟨-,hc0,hc1⟩:=hT (hu 5);subst e8 hc0 hc1;have HB3:=hid (HB2.out.trans hb.1);have HX3:=hid hb.2.1;have HI3:=hid hb.2.2.1;have HR3:=hid hb.2.2.2;have ⟨HV3,HGV⟩:=hh2 hV hv3;clear hf0 hf1 hf2 hf3 hA hT hb hu hV HX HI HR HB2 hv3;rw [ea];clear ea;simp only [Act.put,sA,sB,sC];have kv:=(HV3.out 0 _ rfl).1
       by_cases hfi:c_6 i=true
       ·have HFI:=hid hfi;clear hfi
        go_wp2_with (refine wpList_load_mid rfl 66 _ rfl (w.heap.size+1) 0 rfl [.int .i64 i.1,.int .i64 i.2.1,.int .i64 i.2.2.1,.int .i64 i.2.2.2] _ (a_f HI3.out) Tryz.underlying66 rfl (by kernel_rfl) ?_)
        have h0:=l_W i (i_c k) w3 (p_B k);refine h0.mono ?_;clear h0;rintro e w4 ⟨rfl,hb4⟩;rw [show g_J i (i_c k)=true by have h:=HFI.out;rw [c_6,HK.out] at h;exact h];have HB4:=hid (a_a HB3.out hb4);have HX4:=hid (a_h hb4 HX3.out);have HI4:=hid (a_h hb4 HI3.out);have HR4:=hid (a_h hb4 HR3.out);have HV4:=hid (a_h hb4 HV3.out);clear hb4 HX3 HI3 HR3 HV3 HB3 kv
        go_upto_region 10 with fail
        have HRT:=hr;have HFB:=HB4;have HX2:=HX4;have HI2:=HI4;have HR2:=HR4;have HV2:=HV4;have HG:=hid (show w.heap.size+2 < w4.heap.size∧w.heap.size≤v∧v≠w.heap.size∧v≠w.heap.size+1∧v≠w.heap.size+2 from ⟨a_N HR4.out (by simp),by have:=HGV.out;omega,by have:=HGV.out;omega,by have:=HGV.out;omega,by have:=HGV.out;omega⟩);clear HGV HX4 HI4 HR4 HV4 hr HB4;obtain ⟨z,hz⟩:=mn (doT t self i);obtain ⟨x,hx⟩:=mn (doE t i);have ⟨HZ,HXE⟩:=hh2 hz hx;have HN:=HFl;have HL:=hid (show fn≤1000∧ln≤1000 from by have h:=d_l HRT.out;have h2:=HFl.out;omega);have HGV:=HG;clear hz hx HG HFl;refine b_u (InvB t self i k w.heap.size v fa la fn fc ln lc z x) (by kernel_rfl) (by kernel_rfl) ?_ ?_ ?_
        ·intro listed hl;exact .mk undef undef undef undef undef undef undef undef undef undef (.int .i64 0) none 0 none 0 none 0 0 none 0 0 thN (by simp only [Act.put,sA,sB,sC]) (⟨(Below.refl _ _).drew,b_K HX2.out,b_K HI2.out,b_K HV2.out,b_K HR2.out,rfl⟩) (fun h=>absurd h (hl 0 (by decide))) (fun h=>absurd h (hl 1 (by decide))) (fun h=>absurd h (hl 2 (by decide))) (fun h=>absurd h (hl 3 (by decide))) (fun h=>absurd h (hl 4 (by decide))) (fun h=>absurd h (hl 5 (by decide))) (fun h=>absurd h (hl 6 (by decide))) (fun h=>absurd h (hl 6 (by decide))) (fun h=>absurd h (hl 7 (by decide))) (fun h=>absurd h (hl 8 (by decide))) (fun h=>absurd h (hl 8 (by decide))) (fun h=>absurd h (hl 9 (by decide))) (fun h=>absurd h (hl 10 (by decide))) (fun h=>absurd h (hl 11 (by decide)))
        ·show StepsL _ _ _ _ _ _ _
         refine StepsL.cons (k:=0) rfl (fun listed a1 w1 hI hn hw K hK=>?_) ?_
         ·cases hI with | mk p42 p43 p44 p45 p46 p47 p48 p49 p50 p51 p7 fa2 fc2 la2 lc2 fa3 fn3 fc3 la3 ln3 lc3 xs ea hb hf0 hf1 hf2 hC hf4 hf5 hf6 hW6 hD hf8 hW8 hf9 hS hf11 =>
           have HH_:=N19;clear hf0 hf1 hf2 hC hf4 hf5 hf6 hW6 hD hf8 hW8 hf9 hS hf11 hb hw;rw [ea];clear ea;simp only [Act.put,sA,sB,sC]
           go_simp
           obtain ⟨hf0,hf1,hf2,hC,hf4,hf5,hf6,hW6,hD,hf8,hW8,hf9,hS,hf11,hb,hw⟩:=HH_.out;refine hK.out _ _ ?_;exact .mk (.pointer (some ⟨v,1,none⟩)) p43 p44 p45 p46 p47 p48 p49 p50 p51 p7 fa2 fc2 la2 lc2 fa3 fn3 fc3 la3 ln3 lc3 xs (by simp only [Act.put,sA,sB,sC]) (hb) (fun _=>rfl) (upk hf1 rfl) (upk hf2 rfl) (upk hC rfl) (upk hf4 rfl) (upk hf5 rfl) (upk hf6 rfl) (fun h=>a_o (hW6 (a_b h (by decide)))) (upk hD rfl) (upk hf8 rfl) (fun h=>a_o (hW8 (a_b h (by decide)))) (upk hf9 rfl) (fun h=>⟨a_o (hS (a_b h (by decide))).1,(hS (a_b h (by decide))).2⟩) (upk hf11 rfl)
         refine StepsL.cons (k:=1) rfl (fun listed a1 w1 hI hn hw K hK=>?_) ?_
         ·cases hI with | mk p42 p43 p44 p45 p46 p47 p48 p49 p50 p51 p7 fa2 fc2 la2 lc2 fa3 fn3 fc3 la3 ln3 lc3 xs ea hb hf0 hf1 hf2 hC hf4 hf5 hf6 hW6 hD hf8 hW8 hf9 hS hf11 =>
           have e_f0:=hf0 (hw 0 (by decide));subst e_f0;have kc:=(hb.2.2.2.1 1 _ rfl).1;have HH_:=N19;clear hf0 hf1 hf2 hC hf4 hf5 hf6 hW6 hD hf8 hW8 hf9 hS hf11 hb hw;rw [ea];clear ea;simp only [Act.put,sA,sB,sC]
           go_simp
           obtain ⟨hf0,hf1,hf2,hC,hf4,hf5,hf6,hW6,hD,hf8,hW8,hf9,hS,hf11,hb,hw⟩:=HH_.out;refine hK.out _ _ ?_;exact .mk (.pointer (some ⟨v,1,none⟩)) (.func (.func (fk k)) #[] #[]) p44 p45 p46 p47 p48 p49 p50 p51 p7 fa2 fc2 la2 lc2 fa3 fn3 fc3 la3 ln3 lc3 xs (by simp only [Act.put,sA,sB,sC]) (hb) (fun _=>rfl) (fun _=>rfl) (upk hf2 rfl) (upk hC rfl) (upk hf4 rfl) (upk hf5 rfl) (upk hf6 rfl) (fun h=>a_o (hW6 (a_b h (by decide)))) (upk hD rfl) (upk hf8 rfl) (fun h=>a_o (hW8 (a_b h (by decide)))) (upk hf9 rfl) (fun h=>⟨a_o (hS (a_b h (by decide))).1,(hS (a_b h (by decide))).2⟩) (upk hf11 rfl)
         refine StepsL.cons (k:=2) rfl (fun listed a1 w1 hI hn hw K hK=>?_) ?_
         ·cases hI with | mk p42 p43 p44 p45 p46 p47 p48 p49 p50 p51 p7 fa2 fc2 la2 lc2 fa3 fn3 fc3 la3 ln3 lc3 xs ea hb hf0 hf1 hf2 hC hf4 hf5 hf6 hW6 hD hf8 hW8 hf9 hS hf11 =>
           have Hhb:=hid hb;have HH_:=N60;clear hf0 hf1 hf2 hC hf4 hf5 hf6 hW6 hD hf8 hW8 hf9 hS hf11 hb hw;rw [ea];clear ea;simp only [Act.put,sA,sB,sC];refine c_H (by rfl) ?_;refine wp_load_mid 46 _ rfl w.heap.size 0 rfl (thC t fa fn fc la ln lc) _ (a_f Hhb.out.2.1) Tryz.underlying46 rfl (by kernel_rfl) ?_;obtain ⟨hf0,hf1,hf2,hC,hf4,hf5,hf6,hW6,hD,hf8,hW8,hf9,hS,hf11,hw⟩:=HH_.out;have hb:=Hhb.out;refine hK.out _ _ ?_;exact .mk p42 p43 (.agg (thC t fa fn fc la ln lc).toArray) p45 p46 p47 p48 p49 p50 p51 p7 fa2 fc2 la2 lc2 fa3 fn3 fc3 la3 ln3 lc3 xs (by simp only [Act.put,sA,sB,sC]) (hb) (upk hf0 rfl) (upk hf1 rfl) (fun _=>rfl) (upk hC rfl) (upk hf4 rfl) (upk hf5 rfl) (upk hf6 rfl) (fun h=>a_o (hW6 (a_b h (by decide)))) (upk hD rfl) (upk hf8 rfl) (fun h=>a_o (hW8 (a_b h (by decide)))) (upk hf9 rfl) (fun h=>⟨a_o (hS (a_b h (by decide))).1,(hS (a_b h (by decide))).2⟩) (upk hf11 rfl)
         refine StepsL.cons (k:=3) rfl (fun listed a1 w1 hI hn hw K hK=>?_) ?_
         ·cases hI with | mk p42 p43 p44 p45 p46 p47 p48 p49 p50 p51 p7 fa2 fc2 la2 lc2 fa3 fn3 fc3 la3 ln3 lc3 xs ea hb hf0 hf1 hf2 hC hf4 hf5 hf6 hW6 hD hf8 hW8 hf9 hS hf11 =>
           have e_f2:=hf2 (hw 2 (by decide));subst e_f2;have HSZ1:w4.heap.size≤w1.heap.size:=hb.1.size;have Hhb:=hid hb;have HH_:=N60;clear hf0 hf1 hf2 hC hf4 hf5 hf6 hW6 hD hf8 hW8 hf9 hS hf11 hb hw;rw [ea];clear ea;simp only [Act.put,sA,sB,sC];refine c_H (by rfl) ?_;refine a_Q _ _ _ rfl 117 rfl [.agg (thC t fa fn fc la ln lc).toArray] rfl (by kernel_rfl) ((j_H t fa la fn fc ln lc w1 (d_b (HFB.out.trans Hhb.out.1) HF.out) HL.out.1 HL.out.2).mono ?_);rintro e w2 ⟨fa9,fc9,la9,lc9,rfl,d1,-,d2,d3,d4,hb2⟩;rw [HN.out.1] at d1 d2 ⊢;rw [HN.out.2] at d3 d4 ⊢;refine ⟨_,rfl,?_⟩;obtain ⟨hf0,hf1,hf2,hC,hf4,hf5,hf6,hW6,hD,hf8,hW8,hf9,hS,hf11,hw⟩:=HH_.out;have hb:=Hhb.out;refine hK.out _ _ ?_;exact .mk p42 p43 (.agg (thC t fa fn fc la ln lc).toArray) (.agg (thC t fa9 fn fc9 la9 ln lc9).toArray) p46 p47 p48 p49 p50 p51 p7 fa9 fc9 la9 lc9 fa3 fn3 fc3 la3 ln3 lc3 xs (by simp only [Act.put,sA,sB,sC]) (⟨hb.1.trans (hb2.mono (Nat.le_of_lt (a_N hb.2.1 (by simp)))),a_h hb2 hb.2.1,a_h hb2 hb.2.2.1,a_h hb2 hb.2.2.2.1,a_h hb2 hb.2.2.2.2.1,hb.2.2.2.2.2⟩) (upk hf0 rfl) (upk hf1 rfl) (fun _=>rfl) (fun _=>⟨rfl,d1,b_e (fun b hq=>Nat.le_trans HSZ1 hq) d2,d3,b_e (fun b hq=>Nat.le_trans HSZ1 hq.1) d4⟩) (upk hf4 rfl) (upk hf5 rfl) (fun h=>absurd (hW6 (a_b h (by decide))) hn) (fun h=>a_o (hW6 (a_b h (by decide)))) (fun h=>⟨(hD (a_b h (by decide))).1,a_v (a_C hb2) (hD (a_b h (by decide))).2⟩) (upk hf8 rfl) (fun h=>a_o (hW8 (a_b h (by decide)))) (upk hf9 rfl) (fun h=>⟨a_o (hS (a_b h (by decide))).1,(hS (a_b h (by decide))).2⟩) (upk hf11 rfl)
         refine StepsL.cons (k:=4) rfl (fun listed a1 w1 hI hn hw K hK=>?_) ?_
         ·cases hI with | mk p42 p43 p44 p45 p46 p47 p48 p49 p50 p51 p7 fa2 fc2 la2 lc2 fa3 fn3 fc3 la3 ln3 lc3 xs ea hb hf0 hf1 hf2 hC hf4 hf5 hf6 hW6 hD hf8 hW8 hf9 hS hf11 =>
           have HH_:=N19;clear hf0 hf1 hf2 hC hf4 hf5 hf6 hW6 hD hf8 hW8 hf9 hS hf11 hb hw;rw [ea];clear ea;simp only [Act.put,sA,sB,sC]
           go_simp
           obtain ⟨hf0,hf1,hf2,hC,hf4,hf5,hf6,hW6,hD,hf8,hW8,hf9,hS,hf11,hb,hw⟩:=HH_.out;refine hK.out _ _ ?_;exact .mk p42 p43 p44 p45 (.int .i64 self) p47 p48 p49 p50 p51 p7 fa2 fc2 la2 lc2 fa3 fn3 fc3 la3 ln3 lc3 xs (by simp only [Act.put,sA,sB,sC]) (hb) (upk hf0 rfl) (upk hf1 rfl) (upk hf2 rfl) (upk hC rfl) (fun _=>rfl) (upk hf5 rfl) (upk hf6 rfl) (fun h=>a_o (hW6 (a_b h (by decide)))) (upk hD rfl) (upk hf8 rfl) (fun h=>a_o (hW8 (a_b h (by decide)))) (upk hf9 rfl) (fun h=>⟨a_o (hS (a_b h (by decide))).1,(hS (a_b h (by decide))).2⟩) (upk hf11 rfl)
         refine StepsL.cons (k:=5) rfl (fun listed a1 w1 hI hn hw K hK=>?_) ?_
         ·cases hI with | mk p42 p43 p44 p45 p46 p47 p48 p49 p50 p51 p7 fa2 fc2 la2 lc2 fa3 fn3 fc3 la3 ln3 lc3 xs ea hb hf0 hf1 hf2 hC hf4 hf5 hf6 hW6 hD hf8 hW8 hf9 hS hf11 =>
           have Hhb:=hid hb;have HH_:=N60;clear hf0 hf1 hf2 hC hf4 hf5 hf6 hW6 hD hf8 hW8 hf9 hS hf11 hb hw;rw [ea];clear ea;simp only [Act.put,sA,sB,sC];refine c_H (by rfl) ?_;refine wp_load_mid 66 _ rfl (w.heap.size+1) 0 rfl [.int .i64 i.1,.int .i64 i.2.1,.int .i64 i.2.2.1,.int .i64 i.2.2.2] _ (a_f Hhb.out.2.2.1) Tryz.underlying66 rfl (by kernel_rfl) ?_;obtain ⟨hf0,hf1,hf2,hC,hf4,hf5,hf6,hW6,hD,hf8,hW8,hf9,hS,hf11,hw⟩:=HH_.out;have hb:=Hhb.out;refine hK.out _ _ ?_;exact .mk p42 p43 p44 p45 p46 (.agg #[.int .i64 i.1,.int .i64 i.2.1,.int .i64 i.2.2.1,.int .i64 i.2.2.2]) p48 p49 p50 p51 p7 fa2 fc2 la2 lc2 fa3 fn3 fc3 la3 ln3 lc3 xs (by simp only [Act.put,sA,sB,sC]) (hb) (upk hf0 rfl) (upk hf1 rfl) (upk hf2 rfl) (upk hC rfl) (upk hf4 rfl) (fun _=>rfl) (upk hf6 rfl) (fun h=>a_o (hW6 (a_b h (by decide)))) (upk hD rfl) (upk hf8 rfl) (fun h=>a_o (hW8 (a_b h (by decide)))) (upk hf9 rfl) (fun h=>⟨a_o (hS (a_b h (by decide))).1,(hS (a_b h (by decide))).2⟩) (upk hf11 rfl)
         refine StepsL.cons (k:=6) rfl (fun listed a1 w1 hI hn hw K hK=>?_) ?_
         ·cases hI with | mk p42 p43 p44 p45 p46 p47 p48 p49 p50 p51 p7 fa2 fc2 la2 lc2 fa3 fn3 fc3 la3 ln3 lc3 xs ea hb hf0 hf1 hf2 hC hf4 hf5 hf6 hW6 hD hf8 hW8 hf9 hS hf11 =>
           have e_f4:=hf4 (hw 4 (by decide));have e_f5:=hf5 (hw 5 (by decide));subst e_f4 e_f5;obtain ⟨e45,hC2⟩:=hC (hw 3 (by decide));subst e45;have HH_:=N19;clear hf0 hf1 hf2 hC hf4 hf5 hf6 hW6 hD hf8 hW8 hf9 hS hf11 hb hw;rw [ea];clear ea;simp only [Act.put,sA,sB,sC]
           go_simp
           obtain ⟨hf0,hf1,hf2,hC,hf4,hf5,hf6,hW6,hD,hf8,hW8,hf9,hS,hf11,hb,hw⟩:=HH_.out;refine hK.out _ _ ?_;exact .mk p42 p43 p44 (.agg (thC t fa2 fn fc2 la2 ln lc2).toArray) (.int .i64 self) (.agg #[.int .i64 i.1,.int .i64 i.2.1,.int .i64 i.2.2.1,.int .i64 i.2.2.2]) (.agg (tkC t fa2 fn fc2 la2 ln lc2 self i).toArray) p49 p50 p51 p7 fa2 fc2 la2 lc2 fa3 fn3 fc3 la3 ln3 lc3 xs (by simp only [Act.put,sA,sB,sC]) (hb) (upk hf0 rfl) (upk hf1 rfl) (upk hf2 rfl) (fun _=>⟨rfl,hC2⟩) (fun _=>rfl) (fun _=>rfl) (fun _=>rfl) (fun _=>a_o (hw 3 (by decide))) (upk hD rfl) (upk hf8 rfl) (fun h=>a_o (hW8 (a_b h (by decide)))) (upk hf9 rfl) (fun h=>⟨a_o (hS (a_b h (by decide))).1,(hS (a_b h (by decide))).2⟩) (upk hf11 rfl)
         refine StepsL.cons (k:=7) rfl (fun listed a1 w1 hI hn hw K hK=>?_) ?_
         ·cases hI with | mk p42 p43 p44 p45 p46 p47 p48 p49 p50 p51 p7 fa2 fc2 la2 lc2 fa3 fn3 fc3 la3 ln3 lc3 xs ea hb hf0 hf1 hf2 hC hf4 hf5 hf6 hW6 hD hf8 hW8 hf9 hS hf11 =>
           have e_f1:=hf1 (hw 1 (by decide));have e_f6:=hf6 (hw 6 (by decide));subst e_f1 e_f6;obtain ⟨e45,hC2⟩:=hC (hW6 (hw 6 (by decide)));have HSZ1:w4.heap.size≤w1.heap.size:=hb.1.size;have HH_:=N19;clear hf0 hf1 hf2 hC hf4 hf5 hf6 hW6 hD hf8 hW8 hf9 hS hf11 hb hw;rw [ea];clear ea;simp only [Act.put,sA,sB,sC];refine c_H (by rfl) ?_;have h0:=q_A (fun b=>w4.heap.size≤b) t self i k fa2 la2 fn fc2 ln lc2 w1 HK.out HKK.out.1 HKK.out.2 HFI.out HRT.out hC2 (fun b hq=>Nat.le_trans HSZ1 hq);rw [HZ.out,HXE.out] at h0;refine a_Q _ _ _ rfl (fk k) rfl [.agg (tkC t fa2 fn fc2 la2 ln lc2 self i).toArray] rfl (s_J k HKK.out.1 HKK.out.2) (h0.mono ?_);rintro e w2 ⟨fa9,fn9,fc9,la9,ln9,lc9,rfl,hq9,hb2⟩;refine ⟨_,rfl,?_⟩;obtain ⟨hf0,hf1,hf2,hC,hf4,hf5,hf6,hW6,hD,hf8,hW8,hf9,hS,hf11,hb,hw⟩:=HH_.out;refine hK.out _ _ ?_;exact .mk p42 (.func (.func (fk k)) #[] #[]) p44 p45 p46 p47 (.agg (tkC t fa2 fn fc2 la2 ln lc2 self i).toArray) (.tuple #[.agg (thC z fa9 fn9 fc9 la9 ln9 lc9).toArray,.int .i64 x]) p50 p51 p7 fa2 fc2 la2 lc2 fa9 fn9 fc9 la9 ln9 lc9 xs (by simp only [Act.put,sA,sB,sC]) (⟨hb.1.trans (hb2.mono (Nat.le_of_lt (a_N hb.2.1 (by simp)))),a_h hb2 hb.2.1,a_h hb2 hb.2.2.1,a_h hb2 hb.2.2.2.1,a_h hb2 hb.2.2.2.2.1,hb.2.2.2.2.2⟩) (upk hf0 rfl) (fun _=>rfl) (upk hf2 rfl) (fun h=>⟨(hC (a_b h (by decide))).1,a_v (a_C hb2) (hC (a_b h (by decide))).2⟩) (upk hf4 rfl) (upk hf5 rfl) (fun _=>rfl) (fun h=>a_o (hW6 (a_b h (by decide)))) (fun _=>⟨rfl,hq9⟩) (fun h=>absurd (hW8 (a_b h (by decide))) hn) (fun h=>a_o (hW8 (a_b h (by decide)))) (upk hf9 rfl) (fun h=>absurd (hS (a_b h (by decide))).1 hn) (upk hf11 rfl)
         refine StepsL.cons (k:=8) rfl (fun listed a1 w1 hI hn hw K hK=>?_) ?_
         ·cases hI with | mk p42 p43 p44 p45 p46 p47 p48 p49 p50 p51 p7 fa2 fc2 la2 lc2 fa3 fn3 fc3 la3 ln3 lc3 xs ea hb hf0 hf1 hf2 hC hf4 hf5 hf6 hW6 hD hf8 hW8 hf9 hS hf11 =>
           obtain ⟨e49,hD2⟩:=hD (hw 7 (by decide));subst e49;have HH_:=N19;clear hf0 hf1 hf2 hC hf4 hf5 hf6 hW6 hD hf8 hW8 hf9 hS hf11 hb hw;rw [ea];clear ea;simp only [Act.put,sA,sB,sC]
           go_simp
           obtain ⟨hf0,hf1,hf2,hC,hf4,hf5,hf6,hW6,hD,hf8,hW8,hf9,hS,hf11,hb,hw⟩:=HH_.out;refine hK.out _ _ ?_;exact .mk p42 p43 p44 p45 p46 p47 p48 (.tuple #[.agg (thC z fa3 fn3 fc3 la3 ln3 lc3).toArray,.int .i64 x]) (.agg (thC z fa3 fn3 fc3 la3 ln3 lc3).toArray) p51 p7 fa2 fc2 la2 lc2 fa3 fn3 fc3 la3 ln3 lc3 xs (by simp only [Act.put,sA,sB,sC]) (hb) (upk hf0 rfl) (upk hf1 rfl) (upk hf2 rfl) (upk hC rfl) (upk hf4 rfl) (upk hf5 rfl) (upk hf6 rfl) (fun h=>a_o (hW6 (a_b h (by decide)))) (fun _=>⟨rfl,hD2⟩) (fun _=>rfl) (fun _=>a_o (hw 7 (by decide))) (upk hf9 rfl) (fun h=>⟨a_o (hS (a_b h (by decide))).1,(hS (a_b h (by decide))).2⟩) (upk hf11 rfl)
         refine StepsL.cons (k:=9) rfl (fun listed a1 w1 hI hn hw K hK=>?_) ?_
         ·cases hI with | mk p42 p43 p44 p45 p46 p47 p48 p49 p50 p51 p7 fa2 fc2 la2 lc2 fa3 fn3 fc3 la3 ln3 lc3 xs ea hb hf0 hf1 hf2 hC hf4 hf5 hf6 hW6 hD hf8 hW8 hf9 hS hf11 =>
           obtain ⟨e49,hD2⟩:=hD (hw 7 (by decide));subst e49;have HH_:=N19;clear hf0 hf1 hf2 hC hf4 hf5 hf6 hW6 hD hf8 hW8 hf9 hS hf11 hb hw;rw [ea];clear ea;simp only [Act.put,sA,sB,sC]
           go_simp
           obtain ⟨hf0,hf1,hf2,hC,hf4,hf5,hf6,hW6,hD,hf8,hW8,hf9,hS,hf11,hb,hw⟩:=HH_.out;refine hK.out _ _ ?_;exact .mk p42 p43 p44 p45 p46 p47 p48 (.tuple #[.agg (thC z fa3 fn3 fc3 la3 ln3 lc3).toArray,.int .i64 x]) p50 (.int .i64 x) p7 fa2 fc2 la2 lc2 fa3 fn3 fc3 la3 ln3 lc3 xs (by simp only [Act.put,sA,sB,sC]) (hb) (upk hf0 rfl) (upk hf1 rfl) (upk hf2 rfl) (upk hC rfl) (upk hf4 rfl) (upk hf5 rfl) (upk hf6 rfl) (fun h=>a_o (hW6 (a_b h (by decide)))) (fun _=>⟨rfl,hD2⟩) (upk hf8 rfl) (fun h=>a_o (hW8 (a_b h (by decide)))) (fun _=>rfl) (fun h=>⟨a_o (hS (a_b h (by decide))).1,(hS (a_b h (by decide))).2⟩) (upk hf11 rfl)
         refine StepsL.cons (k:=10) rfl (fun listed a1 w1 hI hn hw K hK=>?_) ?_
         ·cases hI with | mk p42 p43 p44 p45 p46 p47 p48 p49 p50 p51 p7 fa2 fc2 la2 lc2 fa3 fn3 fc3 la3 ln3 lc3 xs ea hb hf0 hf1 hf2 hC hf4 hf5 hf6 hW6 hD hf8 hW8 hf9 hS hf11 =>
           have e_f8:=hf8 (hw 8 (by decide));subst e_f8;have hup7:=hW8 (hw 8 (by decide));have HSZ1:w.heap.size+2 < w4.heap.size∧w.heap.size≤v∧v≠w.heap.size∧v≠w.heap.size+1∧v≠w.heap.size+2:=HGV.out;have Hhb:=hid hb;have HH_:=N60;clear hf0 hf1 hf2 hC hf4 hf5 hf6 hW6 hD hf8 hW8 hf9 hS hf11 hb hw;rw [ea];clear ea;simp only [Act.put,sA,sB,sC];refine c_H (by rfl) ?_;refine a_7 46 _ _ rfl (w.heap.size+2) (thC z fa3 fn3 fc3 la3 ln3 lc3).toArray rfl rfl xs Hhb.out.2.2.2.2.1 Hhb.out.2.2.2.2.2.symm (by kernel_rfl) (a_L _ _ _ _ _ _ _) ?_;intro U HU;obtain ⟨hf0,hf1,hf2,hC,hf4,hf5,hf6,hW6,hD,hf8,hW8,hf9,hS,hf11,hw⟩:=HH_.out;have hb:=Hhb.out;refine hK.out _ _ ?_;exact .mk p42 p43 p44 p45 p46 p47 p48 p49 (.agg (thC z fa3 fn3 fc3 la3 ln3 lc3).toArray) p51 p7 fa2 fc2 la2 lc2 fa3 fn3 fc3 la3 ln3 lc3 (thC z fa3 fn3 fc3 la3 ln3 lc3) (by simp only [Act.put,sA,sB,sC]) (⟨a_x HU (by omega) hb.1,by rw [HU.out];exact a_j (by omega) hb.2.1,by rw [HU.out];exact a_j (by omega) hb.2.2.1,by rw [HU.out];exact a_j (by omega) hb.2.2.2.1,by rw [HU.out];exact a_q (xs:=(thC z fa3 fn3 fc3 la3 ln3 lc3)) hb.2.2.2.2.1 hb.2.2.2.2.2.symm,rfl⟩) (upk hf0 rfl) (upk hf1 rfl) (upk hf2 rfl) (fun h=>⟨(hC (a_b h (by decide))).1,a_v (by rw [HU.out];exact a_u (fun b hq=>by omega)) (hC (a_b h (by decide))).2⟩) (upk hf4 rfl) (upk hf5 rfl) (upk hf6 rfl) (fun h=>a_o (hW6 (a_b h (by decide)))) (fun h=>⟨(hD (a_b h (by decide))).1,a_v (by rw [HU.out];exact a_u (fun b hq=>by omega)) (hD (a_b h (by decide))).2⟩) (fun _=>rfl) (fun h=>a_o (hW8 (a_b h (by decide)))) (upk hf9 rfl) (fun _=>⟨a_o hup7,rfl⟩) (upk hf11 rfl)
         refine StepsL.cons (k:=11) rfl (fun listed a1 w1 hI hn hw K hK=>?_) ?_
         ·cases hI with | mk p42 p43 p44 p45 p46 p47 p48 p49 p50 p51 p7 fa2 fc2 la2 lc2 fa3 fn3 fc3 la3 ln3 lc3 xs ea hb hf0 hf1 hf2 hC hf4 hf5 hf6 hW6 hD hf8 hW8 hf9 hS hf11 =>
           have e_f9:=hf9 (hw 9 (by decide));subst e_f9;have HH_:=N19;clear hf0 hf1 hf2 hC hf4 hf5 hf6 hW6 hD hf8 hW8 hf9 hS hf11 hb hw;rw [ea];clear ea;simp only [Act.put,sA,sB,sC]
           go_simp
           obtain ⟨hf0,hf1,hf2,hC,hf4,hf5,hf6,hW6,hD,hf8,hW8,hf9,hS,hf11,hb,hw⟩:=HH_.out;refine hK.out _ _ ?_;exact .mk p42 p43 p44 p45 p46 p47 p48 p49 p50 (.int .i64 x) (.int .i64 x) fa2 fc2 la2 lc2 fa3 fn3 fc3 la3 ln3 lc3 xs (by simp only [Act.put,sA,sB,sC]) (hb) (upk hf0 rfl) (upk hf1 rfl) (upk hf2 rfl) (upk hC rfl) (upk hf4 rfl) (upk hf5 rfl) (upk hf6 rfl) (fun h=>a_o (hW6 (a_b h (by decide)))) (upk hD rfl) (upk hf8 rfl) (fun h=>a_o (hW8 (a_b h (by decide)))) (fun _=>rfl) (fun h=>⟨a_o (hS (a_b h (by decide))).1,(hS (a_b h (by decide))).2⟩) (fun _=>rfl)
         exact StepsL.nil
        ·intro listed a1 w5 hI hu
         cases hI with | mk p42 p43 p44 p45 p46 p47 p48 p49 p50 p51 p7 fa2 fc2 la2 lc2 fa3 fn3 fc3 la3 ln3 lc3 xs ea hb hf0 hf1 hf2 hC hf4 hf5 hf6 hW6 hD hf8 hW8 hf9 hS hf11 =>
          obtain ⟨-,hxs⟩:=hS (hu 10);have hD2:=(hD (hu 7)).2;have h11:=hf11 (hu 11);subst hxs h11;have HB5:=hid (HFB.out.trans hb.1);have HR5:=hid hb.2.2.2.2.1;have HD5:=hid (b_t (fun b hq=>Nat.le_trans HFB.out.size hq) hD2);clear hf0 hf1 hf2 hC hf4 hf5 hf6 hW6 hD hf8 hW8 hf9 hS hf11 hb hu hD2;rw [ea];clear ea;simp only [Act.put,sA,sB,sC]
          go_wp2
          refine a_m ⟨w.heap.size+2,0,none⟩ rfl rfl rfl (b_s _ _ z fa3 la3 fn3 fc3 ln3 lc3 HR5.out) ?_;have hE:apE t self i=x:=HA2.out (by rw [if_neg (by rw [HFI.out];decide)];exact HXE.out)
          by_cases hx0:x=0
          ·have hT0:apT t self i=z:=by rw [apT,hE,if_pos hx0,HZ.out]
           rw [hE,hT0];exact e_k HD5.out.fs.1 HD5.out.lf.1 HD5.out HB5.out
          ·have hT0:apT t self i=z:=by
            rw [apT,hE,if_neg hx0,←HZ.out];exact (t_6 (by rw [HXE.out];exact hx0)).symm
           rw [hE,hT0];exact e_k HD5.out.fs.1 HD5.out.lf.1 HD5.out HB5.out
       ·have HE:=hid (show apE t self i=3 from HA2.out (by rw [if_pos (by simpa using hfi)]));have HFI:=hid (show c_6 i=false by simpa using hfi);clear hfi
        go_wp2_with (refine wpList_load_mid rfl 66 _ rfl (w.heap.size+1) 0 rfl [.int .i64 i.1,.int .i64 i.2.1,.int .i64 i.2.2.1,.int .i64 i.2.2.2] _ (a_f HI3.out) Tryz.underlying66 rfl (by kernel_rfl) ?_)
        have h0:=l_W i (i_c k) w3 (p_B k);refine h0.mono ?_;clear h0;rintro e w4 ⟨rfl,hb4⟩;rw [show g_J i (i_c k)=false by have h:=HFI.out;rw [c_6,HK.out] at h;exact h];have HB4:=hid (a_a HB3.out hb4);have HR4:=hid (a_h hb4 HR3.out);clear hb4 kv
        go_wp2_with (refine a_c rfl 46 _ _ rfl (w.heap.size+2) thN.toArray rfl rfl _ HR4.out rfl (by kernel_rfl) (a_L d_z none none 0 0 0 0) ?_;intro U HU)
        refine a_m ⟨w.heap.size+2,0,none⟩ rfl rfl rfl (a_T (t:=d_z) HU HR4.out rfl) ?_;exact b_0 (h_Z (by rw [HE.out];decide)) HE.out (a_x HU (by omega) HB4.out)
   ·have HE:=hid (show apE t self i=9 by rw [apE,if_neg (fun h1=>h1.elim (fun h1=>by rw [hm'.out] at h1;cases h1) HPC.out),if_pos (by simpa using hy)]);have hy':=hid (show d_7 t=false by simpa using hy);clear hy
    go_wp2_with (refine wpList_load_mid rfl 46 _ rfl w.heap.size 0 rfl (thC t fa fn fc la ln lc) _ (a_f HX1.out) Tryz.underlying46 rfl (by kernel_rfl) ?_)
    refine (h_h t fa la fn fc ln lc _ HFl.out.2).mono ?_;rintro e w2 ⟨rfl,hb2⟩;rw [hy'.out];have HB2:=hid (a_a HB1.out hb2);have HR2:=hid (a_h hb2 HR1.out);clear hb2 HX1 HI1 HR1 HB1 k0 hpb;exact J44
 ·have HE:=hid (show apE t self i=1 by rw [apE,if_pos (.inl (by simpa using hm))]);have hm':=hid (show f_S t self=false by simpa using hm);clear hm
  go_wp2_with (refine wpList_load_mid rfl 46 _ rfl w.heap.size 0 rfl (thC t fa fn fc la ln lc) _ (a_f HX.out) Tryz.underlying46 rfl (by kernel_rfl) ?_)
  refine (j_I t self fa la fn fc ln lc W HFW.out).mono ?_;rintro e w1 ⟨rfl,hb1⟩;rw [hm'.out];have HB1:=hid (a_a HB.out hb1);have HR1:=hid (a_h hb1 HR.out);clear hb1 HX HI HR HFW HB k0;exact J68
theorem t_b {w0 w:World} {g o:Nat} {cs:List Value} (hb:Below w0.heap.size w0 w) (h:w0.rangeAt g o cs):w.rangeAt g o cs:=fun j v hj=>a_t hb (h j v hj)
theorem s_w {X:Wo} {k:Nat} {t:Thr} {i:Ins} (hrw:a_6 X=true) (hk:k < X.th.length) (ht:e_o X.th.length t=true) (hst:t.st=0) (hpc:t.pc < 1000) (hmi:c_K i X.code.length=true) (hc:X.code.length≤1000) (hl:1≤i.1∧i.1≤15):apE t k i=d_f X k t i∧(d_f X k t i=0→b_k X k (apT t k i)=d_3 X k t i):=by
 have hb8:=(a_S (a_M hrw).2.1).2.1;have hl3:=(a_M hrw).2.2.1;have hrt:a_R t=true:=by simp only [e_o,Bool.and_eq_true] at ht;exact ht.1
 have hr7:f_S t k=true:=by simp only [f_S,hrt,Bool.true_and,decide_eq_true_eq];omega
 have hE:apE t k i=d_f X k t i:=by
  rw [d_f,if_pos hl,apE,if_neg (by rintro (h | h);rw [hr7] at h;cases h;omega)]
  by_cases h0:t.lf.length=0
  ·have hrd:d_7 t=true:=by simp [d_7,hst,h0]
   rw [if_pos h0,if_neg (by rw [hrd];decide),if_neg (by omega),if_neg (by rw [k_W hmi (by omega) hl];decide)]
  ·have hrd:d_7 t=false:=by simp [d_7,h0]
   rw [if_neg h0,if_pos hrd]
 refine ⟨hE,fun h0=>?_⟩;rw [apT,if_pos (hE.trans h0),d_3,if_neg (by omega),if_pos hl]
def t_R (g b k:Nat) (t u:Thr) (i:Ins) (fa la:Option Addr) (tn fc tm lc:Nat) (me:Int) (Q:Nat→Prop):b_v:=[isV 0 (.pointer (some ⟨b,k*13,none⟩)),isV 1 (.pointer (some ⟨b,k*13,none⟩)),isV 2 (.pointer (some ⟨b,k*13,none⟩)),isV 3 (.agg (thC t fa tn fc la tm lc).toArray),isV 4 (.pointer (some ⟨g,0,none⟩)),isV 5 (.pointer (some ⟨g,0,none⟩)),isV 6 (.pointer (some ⟨g,7,none⟩)),isV 7 (.int .i64 k),isV 8 (.agg #[.int .i64 i.1,.int .i64 i.2.1,.int .i64 i.2.2.1,.int .i64 i.2.2.2]),([9],fun vz w=>∃ p q:Sp,vz=[.tuple #[.agg (thC u p.a u.fs.length p.c q.a u.lf.length q.c).toArray,.int .i64 me]]∧ThQ Q w p.a u.fs.length p.c q.a u.lf.length q.c u),([10],fun vz w=>∃ p q:Sp,vz=[.agg (thC u p.a u.fs.length p.c q.a u.lf.length q.c).toArray]∧ThQ Q w p.a u.fs.length p.c q.a u.lf.length q.c u),isV 11 (.int .i64 me),([12],fun vz w=>me=0∧∃ p q:Sp,vz=[.agg (thC u p.a u.fs.length p.c q.a u.lf.length q.c).toArray]∧ThQ Q w p.a u.fs.length p.c q.a u.lf.length q.c u),isW 13 [] (.pointer (some ⟨b,k*13,none⟩))]
theorem o_y (g b k:Nat) (t u:Thr) (i:Ins) (fa la:Option Addr) (tn fc tm lc:Nat) (me:Int) (Q:Nat→Prop):c_q (t_R g b k  t u  i  fa la  tn fc tm lc  me  Q ):=a_d<|a_d<|a_d<|a_d<|a_d<|a_d<|a_d<|a_d<|a_d<|a_w (fun _ _ _ hb h=>by obtain ⟨p,q,h1,h2⟩:=h;exact ⟨p,q,h1,a_v (a_C hb) h2⟩)<|a_w (fun _ _ _ hb h=>by obtain ⟨p,q,h1,h2⟩:=h;exact ⟨p,q,h1,a_v (a_C hb) h2⟩)<|a_d<|a_w (fun _ _ _ hb h=>by obtain ⟨h0,p,q,h1,h2⟩:=h;exact ⟨h0,p,q,h1,a_v (a_C hb) h2⟩)<|a_2<|b_B
theorem p_F (Q:Nat→Prop) (g b:Nat) (Sx:Nat→Prop) (L:WoL) (X:Wo) (k:Nat) (w:World) (H:Wk Q w g b L X k) (hN:Sx g∧Sx b) (hrw:a_6 X=true) (hcan:g_8 X k=true) (hwf:∀ j,j < 8→(Lit.int .i64 ((thW X k).r j)).wf=true) (hen:L.ev.n≤200000) (hno:∀ q,(Value.slice L.ev.a L.ev.n L.ev.c).ownBlock=some q→Sx q) :
  Calls Tryz.prog 45 #[.pointer (some ⟨g,0,none⟩)] w (c_d g b Sx X (d_3 X k (thW X k) (inW X (thW X k).pc)) k (g_q X k) w):=by
 obtain ⟨hrc,hm,hl3,hone⟩:=a_M hrw;have ho:=hone _ (g_r H.hk);have hpc:=(oneW_iff.1 ho).1;have hst:=k_D hcan;have hc1:=d_t hrc;have ⟨HH,HNN,HRW,HWF,HEN,HNO⟩:=hh6 H hN hrw hwf hen hno;have HPS:=hid (And.intro ho hst);have ⟨HC1,HPC⟩:=hh2 hc1 hpc;have HC:=hid (q_9 Q g b L X k w H hpc.1);obtain ⟨i,hi⟩:=mn (inW X (thW X k).pc);obtain ⟨d,hd⟩:=mn (decide ((thW X k).pc < X.code.length));rw [hi,hd] at HC;rw [hi];obtain ⟨E,hE⟩:=mn (g_q X k);rw [hE];obtain ⟨Y,hY⟩:=mn (d_3 X k (thW X k) i);rw [hY];have ⟨HI,HDD,HE,HY⟩:=hh4 hi hd hE hY;clear H hN hrw hcan hwf hen hno hrc hm hl3 hone ho hpc hst hc1 hi hd hE hY
 go_enter Tryz.func45,Tryz.ntmps45
 go_wp2_with fail
 refine HC.out.mono ?_;clear HC;rintro e1 w1 ⟨rfl,hb1⟩;have HB1:=hid hb1;clear hb1
 go_upto_region 1 with (refine a_c rfl 66 _ _ rfl w1.heap.size (inC i).toArray rfl rfl _ (a_e (inC (0,0,0,0)) w1.heap.size rfl) rfl (by kernel_rfl) (by simp [Value.oneCell']) ?_;intro U HU)
 obtain ⟨gi,hgi⟩:=mn (w1.heap.size);have HIU:=hid (show a_p U gi (inC i) by rw [HU.out,←hgi];exact a_q (a_e (inC (0,0,0,0)) _ rfl) rfl);have HBU:=N74;have HHU:=hid (d_y HBU.out HH.out);have HBNU:=hid (show Bel Sx w U from d_r HBU.out);rw [hgi];clear HU hgi
 cases d with
 | false =>
  have HEV:=hid (show E=3 by rw [←HE.out,g_q,if_pos (by have:=of_decide_eq_false HDD.out;omega)])
  go_wp2
  exact And.intro rfl ⟨.inr ⟨by rw [HEV.out];decide,by rw [HEV.out],Q,L,HHU.out⟩,HBNU.out⟩
 | true =>
  have hlt:(thW X k).pc < X.code.length:=of_decide_eq_true HDD.out;have HMI:=hid (show c_K i X.code.length=true from HC1.out.2 _ (by rw [←HI.out];exact o_C HPC.out.1 hlt));have HEI:=hid (show d_f X k (thW X k) i=E by rw [←HE.out,g_q,if_neg (by omega),HI.out]);have HLT:=hid (show (thW X k).pc < 1000 by have:=HC1.out.1;omega);clear hlt;obtain ⟨q0,-⟩:=HIU.out 0 _ rfl
  by_cases hloc:1≤i.1∧i.1≤15
  ·obtain ⟨hae,hay⟩:=s_w HRW.out HHU.out.hk HPS.out.1 HPS.out.2 HLT.out HMI.out HC1.out.1 hloc;have HAE:=hid (hae.trans HEI.out);have HYE:=hid (show E=0→b_k X k (apT (thW X k) k i)=Y from fun h0=>by rw [←HY.out];exact hay (HEI.out.trans h0));obtain ⟨l1,l2⟩:=hloc;have HC:=hid (b_4 Q g b L X k U HHU.out);clear hae hay
   go_wp2_with fail
   refine HC.out.mono ?_;clear HC q0 l1 l2;rintro e2 V ⟨rfl,m,hm⟩;have HBV:=hid (show Below U.heap.size U V by rw [hm];exact below_drewN (Below.refl _ _) m);clear hm;have HHV:=hid (d_y HBV.out HHU.out);have HIV:=hid (a_h HBV.out HIU.out);have HBN:=hid (HBNU.out.andB HBV.out);obtain ⟨fa,fc,la,lc,T,ht⟩:=c_4 HHV.out;obtain ⟨t,htt⟩:=mn (thW X k);rw [htt] at T ht HAE HYE;obtain ⟨tn,htn⟩:=mn (t.fs.length);obtain ⟨tm,htm⟩:=mn (t.lf.length);rw [htn,htm] at T ht;have HRT:=hid (show V.rangeAt b (k*13) (thC t fa tn fc la tm lc) from fun j v hj=>(ht j v hj).1);obtain ⟨u,hu⟩:=mn (apT t k i);rw [hu] at HYE
   have HL:=hid (fun (x:World) (hx:Below V.heap.size V x)=>(show Calls Tryz.prog 93 #[.agg (thC t fa tn fc la tm lc).toArray,.int .i64 k,.agg #[.int .i64 i.1,.int .i64 i.2.1,.int .i64 i.2.2.1,.int .i64 i.2.2.2]] x (ThPostF u E x) from by
    have h:=n_T t k i fa la tn fc tm lc x (a_v (a_C hx) T).f;rw [HAE.out,hu] at h;exact h))
   obtain ⟨x7,-⟩:=HHV.out.x 7 _ rfl;have hG:=o_y g b k t u i fa la tn fc tm lc E Q;clear T ht htt htn htm hu
   go_wp2_with fail
   refine c_I 14 [some 24,some 25,some 26,some 27,some 28,some 29,some 30,some 31,some 32,some 33,some 34,some 35,some 36,some 37] (fun w'=>Below V.heap.size V w') (t_R g b k t u i fa la tn fc tm lc E Q) 100 100 (fun _ _ _=>True) (by kernel_rfl) (by kernel_rfl) (by decide) rfl rfl ((Below.refl _ _).drew) ?_
   show StepsL _ _ _ _ _ _ _
   refine InvZ.c (fun _ _ w1 _ C _ hK=>oR C hK (h:=by simp [execOp,go_sem,C.o 4 (.pointer (some ⟨b,k*13,none⟩))])) ?_;refine InvZ.c (fun _ _ w1 _ C _ hK=>oR C hK (h:=by simp [execOp,go_sem,C.o 4 (.pointer (some ⟨b,k*13,none⟩))])) ?_;refine InvZ.c (fun _ _ w1 _ C _ hK=>oR C hK (h:=by simp [execOp,go_sem,C.i 1])) ?_;refine InvZ.c (fun a1 vals w1 hdf C K hK=>?_) ?_
   ·have e0:=C.i 2;exact a_i rfl (wp_load_mid 46 _ rfl (b) (k*13) ((a_P a1 _).symm.trans e0) (thC t fa tn fc la tm lc) _ (t_b C.base HRT.out) Tryz.underlying46 rfl (by kernel_rfl) (d_e hK C rfl rfl))
   refine InvZ.c (fun _ _ w1 _ C _ hK=>oR C hK (h:=by simp [execOp,go_sem,C.o 0 (.pointer (some ⟨g,0,none⟩))])) ?_;refine InvZ.c (fun _ _ w1 _ C _ hK=>oR C hK (h:=by simp [execOp,go_sem,C.i 4])) ?_;refine InvZ.c (fun _ _ w1 _ C _ hK=>oR C hK (h:=by simp [execOp,go_sem,C.i 5])) ?_;refine InvZ.c (fun _ _ w1 _ C _ hK=>oR C hK (h:=by simp [execOp,go_sem,C.i 6,a_t C.base x7])) ?_;refine InvZ.c (fun a1 vals w1 hdf C K hK=>?_) ?_
   ·have e0:=C.o 2 (.pointer (some ⟨gi,0,none⟩));exact a_i rfl (wp_load_mid 66 _ rfl gi 0 ((a_P a1 _).symm.trans e0) [.int .i64 i.1,.int .i64 i.2.1,.int .i64 i.2.2.1,.int .i64 i.2.2.2] _ (a_f (a_h C.base HIV.out)) Tryz.underlying66 rfl (by kernel_rfl) (d_e hK C rfl rfl))
   refine InvZ.c (fun a1 vals w1 hdf C K hK=>?_) ?_
   ·have e0:=C.i 3;have e1:=C.i 7;have e2:=C.i 8;rw [a_P] at e0 e1 e2;refine a_i rfl (a_Q _ _ _ rfl 93 rfl [.agg (thC t fa tn fc la tm lc).toArray,.int .i64 k,.agg #[.int .i64 i.1,.int .i64 i.2.1,.int .i64 i.2.2.1,.int .i64 i.2.2.2]] (by simp only [List.map_cons,List.map_nil,e0,e1,e2]) (by kernel_rfl) ((HL.out w1 C.base).mono ?_));rintro e9 w2 ⟨f1,f2,f3,f4,rfl,z1,hb2⟩;exact ⟨_,rfl,p_p hK hG (fun _ _ _ _ _ _=>trivial) hb2 rfl ⟨⟨f1,0,f2⟩,⟨f3,0,f4⟩,rfl,b_t (fun x hx=>HHV.out.new x (by have:=C.base.size;omega)) z1⟩ (a_a C.base hb2)⟩
   refine InvZ.c (fun a1 vals w1 hdf C K hK=>?_) ?_
   ·have e0:=C.t 9 33 rfl rfl;obtain ⟨p,q,h1,h2⟩:=C.says 9 rfl;have h1:vals 9=_:=List.head_eq_of_cons_eq h1;rw [h1] at e0;refine a_i rfl (a_A (v:=.agg (thC u p.a u.fs.length p.c q.a u.lf.length q.c).toArray) ?_ (d_e hK C rfl ⟨p,q,rfl,h2⟩));simp [execOp,go_sem,e0]
   refine InvZ.c (fun a1 vals w1 hdf C K hK=>?_) ?_
   ·have e0:=C.t 9 33 rfl rfl;obtain ⟨p,q,h1,h2⟩:=C.says 9 rfl;have h1:vals 9=_:=List.head_eq_of_cons_eq h1;rw [h1] at e0;refine a_i rfl (a_A (v:=.int .i64 E) ?_ (d_e hK C rfl rfl));simp [execOp,go_sem,e0]
   refine InvZ.c (fun a1 vals w1 hdf C K hK=>?_) ?_
   ·have e0:=C.t 10 34 rfl rfl;obtain ⟨p,q,h1,h2⟩:=C.says 10 rfl;have h1:vals 10=_:=List.head_eq_of_cons_eq h1;rw [h1] at e0;have e1:=C.i 11;rw [a_P] at e0 e1;refine a_i rfl (f_7 _ _ _ rfl 92 rfl [.agg (thC u p.a u.fs.length p.c q.a u.lf.length q.c).toArray,.int .i64 E] (by simp only [List.map_cons,List.map_nil,e0,e1]) (by kernel_rfl) ((o_U u p.a q.a u.fs.length p.c u.lf.length q.c E w1).mono ?_));rintro e9 w2 ⟨(⟨hz,rfl⟩ | ⟨hz,rfl⟩),hb2⟩
    ·exact .inl ⟨_,rfl,p_p hK hG (fun _ _ _ _ _ _=>trivial) hb2 rfl ⟨hz,p,q,rfl,a_v (a_C hb2) h2⟩ (a_a C.base hb2)⟩
    ·exact J76
   refine InvZ.c (fun _ _ w1 _ C _ hK=>oR C hK (h:=by simp [execOp,go_sem,C.i 0])) ?_;refine InvZ.last (n:=14) ?_ ?_ ?_ ?_
   ·rfl
   ·kernel_rfl
   ·decide
   ·intro vals w1 aE hae hval hb hv hbo K hK;obtain ⟨hz,p,q,h1,h2⟩:=c_i (k:=12) rfl (hv 12 (by decide));have HZE:=hid hz;have HYU:=hid (HYE.out hz);clear hz;have y36:vals 12=_:=List.head_eq_of_cons_eq h1;have y37:vals 13=.pointer (some ⟨b,k*13,none⟩):=e_Y rfl (hv 13 (by decide));have HHW:=d_y hb HHV.out;obtain ⟨TC,t1,t2⟩:=HHW.tc
    have tl:k*13+13≤TC.length:=by
     have h3:=b_f t2;have h4:repTh.k=13:=rfl;have h5:=HHW.hk;rw [h3,h4];omega
    refine a_i rfl (e_D 46 _ _ rfl b (k*13) (thC u p.a u.fs.length p.c q.a u.lf.length q.c).toArray ((hval 13 37 rfl rfl).trans y37) ((hval 12 36 rfl rfl).trans y36) _ t1 tl (by kernel_rfl) (a_L _ _ _ _ _ _ _) ?_);intro U HU;refine hK _ _ ?_;rw [hae.out];simp only [c_N,Act.put,sA,sB,sC,y36,y37]
    have HHU:=hid (show Wk Q U g b L (b_k X k u) k from by
     rw [HU.out];refine p_V HHW 0 (thC u p.a u.fs.length p.c q.a u.lf.length q.c) u (by simp) (fun fa fc la lc T=>?_);exact ⟨p.a,p.c,q.a,q.c,rfl,h2⟩)
    have HBU:=hid (show Bel Sx w U by rw [HU.out];exact e_q HNN.out.2 (HBN.out.andB hb));clear hb hv hbo HHW y36 y37 hval hae h1 h2 HU t1 t2 tl
    go_wp2
    first | go_ret | go_end0
    exact ⟨.inl ⟨HZE.out,rfl,Q,L,HYU.out▸HHU.out⟩,HBU.out⟩
  ·have HC:=hid (j_8 Q g b Sx L X k i U HHU.out HNN.out HRW.out HMI.out hloc HWF.out HEN.out HNO.out);rw [HEI.out,HY.out] at HC;obtain ⟨q1,-⟩:=HIU.out 1 _ rfl;obtain ⟨q2,-⟩:=HIU.out 2 _ rfl;obtain ⟨q3,-⟩:=HIU.out 3 _ rfl
   by_cases h1:1≤i.1
   ·have h2:¬ i.1≤15:=fun h=>hloc ⟨h1,h⟩
    exact J50
   ·exact J50
end Go.Proofs.YtogdpojnbgeknaaGreatDoor
namespace Go.Proofs.YtogdpojnbgeknaaGreatDoor
open Go.ChangeShapes Go.WideShapes Go.ChangeAt Go.RowKit
open Gen
theorem m_L (p:Addr) (w:World) :
  CallsD Tryz.prog 90 #[.pointer (some p)] .returning w fun e u' w'=>e=.returned (.tuple #[])∧u'=.returning∧w'=w:=by
 refine callsD_of_wpS Tryz.func90 rfl fun c₀ cs hu=>?_
 apply wpS_seq
 apply wpS_region
 simp [wpOpsS,go_sem,recoverD,hu,Tryz.ntmps90,Exit.thenS];refine wpS_of_wp ?_;change Code.wp _ _ _ { tmps:=#[.pointer (some p),.nilIface,.nilIface,undef,undef,undef,undef,undef,undef,undef],defers:=[] } _
 go_wp2_with fail
 cases c₀
 simp_all [bodyPostS,results,Tryz.results90]
theorem k_E (Q:Nat→Prop) (g b:Nat) (Sx:Nat→Prop) (L:WoL) (X:Wo) (k:Nat) (E:Int) (p:Addr) (older:List PanicEntry) (w:World) (hp:w.cell? p=some (.pointer (some ⟨g,0,none⟩))) (H:Wk Q w g b L X k) (hN:Sx b) :
  CallsD Tryz.prog 90 #[.pointer (some p)] (.panicking ({ v:=h_7 E,recovered:=false }::older)) w fun e u' w' =>
   e=.returned (.tuple #[])∧u'=.panicking ({ v:=h_7 E,recovered:=true }::older)∧Wk Q w' g b L (b_k X k (if (thW X k).st=2 then thW X k else b_w (thW X k) E)) k∧Bel Sx w w':=by
 have HC:=Lib.hid (fun u hu=>m_N Q g b Sx L X k E u (d_y hu H) hN);obtain ⟨T,hT⟩:∃ T,(if (thW X k).st=2 then thW X k else b_w (thW X k) E)=T:=⟨_,rfl⟩;rw [hT] at HC ⊢;clear hT;refine callsD_of_wpS Tryz.func90 rfl fun c₀ cs hu=>?_
 apply wpS_seq
 apply wpS_region
 simp [wpOpsS,go_sem,recoverD,hu,Tryz.ntmps90,Exit.thenS];refine wpS_of_wp ?_;change Code.wp _ _ _ { tmps:=#[.pointer (some p),h_7 E,h_7 E,undef,undef,undef,undef,undef,undef,undef],defers:=[] } _;clear H
 go_wp2_with fail
 have hta:∀ (x:TypeId) (u:World),(Instr.typeAssert (h_7 E) x 133 false).run Tryz.prog u=.ok (.agg #[.int .i64 E]) u:=fun x u=>by
  simp [Instr.typeAssert,go_sem]
 have hfd:∀ (u:World),(Instr.field 133 (.agg #[.int .i64 E]) 0).run Tryz.prog u=.ok (.int .i64 E) u:=fun u=>by
  simp [Instr.field,asAgg,go_sem]
 go_still_tail 4,(by kernel_rfl)
 change wpList _ _ _ _ _ w.drew
 go_wp2_with fail
 refine (HC.out w.drew (Below.refl _ _).drew).mono ?_;clear HC;rintro e2 w2 ⟨rfl,hh,hb⟩;have HH:=Lib.hid (And.intro hh (show Bel Sx w w2 from (d_r ((Below.refl _ _).drew)).trans hb));clear hh hb
 go_wp2_with fail
 cases c₀
 simp only [bodyPostS,results,Tryz.results90];refine ⟨trivial,_,rfl,.tuple #[],?_,rfl,rfl,HH.out.1,HH.out.2⟩;simp [go_sem]
end Go.Proofs.YtogdpojnbgeknaaGreatDoor
namespace Go.Proofs.YtogdpojnbgeknaaGreatDoor
open Go.ChangeShapes Go.WideShapes Go.ChangeAt Go.RowKit
open Gen
open Lib (hid)
def j_h (g b:Nat) (Sx:Nat→Prop) (Y:Wo) (k:Nat) (w:World) (e:Ending) (w':World):Prop:=e=.returned (.tuple #[])∧∃ Q' L',Wk Q' w' g b L' Y k∧Bel Sx w w'
theorem k_w (Q:Nat→Prop) (g b:Nat) (Sx:Nat→Prop) (L:WoL) (X:Wo) (k:Nat) (w:World) (H:Wk Q w g b L X k) (hN:(Sx g∧Sx b)∧¬ Sx w.heap.size) (hrw:a_6 X=true) (hcan:g_8 X k=true) (hwf:∀ j,j < 8→(Lit.int .i64 ((thW X k).r j)).wf=true) (hen:L.ev.n≤200000) (hno:∀ q,(Value.slice L.ev.a L.ev.n L.ev.c).ownBlock=some q→Sx q) :
  Calls Tryz.prog 44 #[.pointer (some ⟨g,0,none⟩),.func (.func 45) #[.pointer (some ⟨g,0,none⟩)] #[]] w (j_h g b Sx (c_R X k) k w):=by
 have hmf:=N72;obtain ⟨W,hW⟩:=nm (w.alloc (Obj.cells #[.pointer (some ⟨g,0,none⟩)] 118));have HX:=hid (show a_p W w.heap.size [.pointer (some ⟨g,0,none⟩)] by rw [hW];exact a_e [.pointer (some ⟨g,0,none⟩)] _ rfl);have HB:=N3;have HH:=hid (d_y HB.out H);have hst:=k_D hcan;have HC:=hid (p_F Q g b Sx L X k W HH.out hN.1 hrw hcan hwf hen hno);have ⟨HW,HNN,HST⟩:=hh3 hW hN hst;clear hW H hrw hcan hwf hen hno hN hst
 go_enter_defers Tryz.func44,Tryz.ntmps44
 go_upto_region 1 with fail
 rw [←HW.out]
 go_wp2_with fail
 refine HC.out.mono ?_;clear HC;rintro e1 w1 ⟨(⟨hz,rfl,Q2,L2,hh⟩ | ⟨hz,rfl,Q2,L2,hh⟩),hb⟩
 ·have HX1:=hid (show j_h g b Sx (c_R X k) k w (.returned (.tuple #[])) w1 from ⟨rfl,Q2,L2,by rw [c_R,if_pos hz];exact hh,(d_r HB.out).trans hb⟩);clear hz hh hb
  go_wp2_with fail
  refine leaves_cons (f:=90) (args:=#[.pointer (some ⟨w.heap.size,0,none⟩)]) (by simp) (by simp [go_sem]) ?_;refine (m_L ⟨w.heap.size,0,none⟩ _).mono ?_;rintro e u' w'' ⟨rfl,rfl,rfl⟩;simp only [Leaves,settle];refine ⟨.tuple #[],?_,HX1.out⟩;simp [results,Tryz.results44,go_sem]
 ·go_wp2_with fail
  have hp:w1.cell? ⟨w.heap.size,0,none⟩=some (.pointer (some ⟨g,0,none⟩)):=(hb.varN HNN.out.2 HX.out 0 _ rfl).1;refine leaves_cons (f:=90) (args:=#[.pointer (some ⟨w.heap.size,0,none⟩)]) (by simp) (by simp [go_sem]) ?_;refine (k_E Q2 g b Sx L2 X k (g_q X k) ⟨w.heap.size,0,none⟩ [] w1 hp hh HNN.out.1.2).mono ?_;rintro e u' w'' ⟨rfl,rfl,h1,h2⟩;simp only [settle];refine ⟨.tuple #[],?_,rfl,Q2,L2,?_,(d_r HB.out).trans (hb.trans h2)⟩
  ·simp [results,Tryz.results44,go_sem]
  ·rw [c_R,if_neg hz];rw [HST.out,if_neg (by decide)] at h1;exact h1
theorem u_u {Q:Nat→Prop} {w:World} {F b g:Nat} {L:WoL} {X:Wo} {k:Nat} {vs:List Value} (hx:a_p w g vs) (h8:vs.length=8) (hg:g < F) (H:Wk0 Q w F b L X) (hk:k < X.th.length):Wk Q (d_u w g 0 (wkC L X.D k)) g b L X k:=by
 have hq:∀ c,Q c→g < c:=fun c hc=>Nat.lt_of_lt_of_le hg (H.hQ c hc).1
 have hK:Kept Q w (d_u w g 0 (wkC L X.D k)):=a_u (fun c hc=>Nat.ne_of_gt (hq c hc));have hev:∀ c,(Value.slice L.ev.a L.ev.n L.ev.c).ownBlock=some c→g < c:=fun c hc=>Nat.lt_of_lt_of_le hg (H.evo c hc).1
 have hgb:g < b:=Nat.lt_of_lt_of_le hg H.hF;obtain ⟨TC,h1,h2⟩:=H.tc
 exact ⟨a_q hx (by rw [h8];rfl),H.hb,⟨TC,a_j (Nat.ne_of_lt hgb) h1,b_n hK h2⟩,a_B hK H.co,a_r hK H.ws,a_r hK H.ts,a_G hK H.bs,
  l_U H.ev (fun e=>Nat.lt_irrefl _ (hev g e)) (fun c hc=>Nat.ne_of_gt (hq c hc)),fun c hc=>⟨Nat.ne_of_gt (hev c hc),(H.evo c hc).2⟩,H.cco,H.cth,H.cev,hk,H.hn,
  fun c hc=>⟨Nat.ne_of_gt (hq c hc),(H.hQ c hc).2⟩,Nat.ne_of_lt hgb,fun c hc=>H.new c (by rwa [a_O] at hc),hq,hev⟩
theorem t_x {Q:Nat→Prop} {w:World} {F b:Nat} {L:WoL} {X:Wo} (H:Wk0 Q w F b L X):X.ev.length=L.ev.n:=by
 exact J112
theorem t_w {Q:Nat→Prop} {w:World} {F b:Nat} {L:WoL} {X:Wo} (H:Wk0 Q w F b L X):∀ c,(Value.slice L.ev.a L.ev.n L.ev.c).ownBlock=some c→c < w.heap.size:=by
 obtain ⟨cs,h1,-⟩:=H.ev;exact fun c hc=>(b_b h1 hc).2
theorem u_t {Q:Nat→Prop} {w:World} {g b:Nat} {L:WoL} {X:Wo} {k:Nat} (H:Wk Q w g b L X k):X.ev.length=L.ev.n:=by
 exact J112
theorem u_k {Q:Nat→Prop} {w:World} {g b z:Nat} {L:WoL} {X:Wo} {k:Nat} {us:List Value} (H:Wk Q w g b L X k) (hz:z < g) (hb:z < b):RWo (fun c=>z < c) (d_u w z 0 us) L X:=by
 have hq:∀ c,Q c→z < c:=fun c hc=>Nat.lt_trans hz (H.lo.1 c hc)
 have hK:Kept Q w (d_u w z 0 us):=a_u (fun c hc=>Nat.ne_of_gt (hq c hc));obtain ⟨TC,h1,h2⟩:=H.tc;obtain ⟨es,e1,e2⟩:=H.ev;have T:=j_c (Q:=fun c=>z < c) (a_j (xs:=us) (k:=0) (Nat.ne_of_lt hb) h1) (c_n hq (b_n hK h2)) hb;rw [←H.hb,H.hn] at T;have e3:(Value.slice L.ev.a L.ev.n L.ev.c).ownBlock≠some z:=fun h=>Nat.lt_irrefl _ (Nat.lt_trans hz (H.lo.2 z h))
 exact ⟨b_e hq (a_B hK H.co),a_n hq (a_r hK H.ws),a_n hq (a_r hK H.ts),a_H hq (a_G hK H.bs),T,p_l (a_0 (us:=us) (k:=0) e3 e1) (c_n hq (b_n hK e2)) (u_t H) (fun q h=>Nat.lt_trans hz (H.lo.2 q h)),H.cco,H.cth,H.cev⟩
theorem okS {X:Wo} (h:a_6 X=true):((1≤X.th.length∧X.th.length≤8)∧X.th.length=X.bs.length)∧(X.code.length≤1000∧X.ws.length≤1000∧X.ts.length≤1000)∧(∀ t∈X.th,t.fs.length≤1000∧t.lf.length≤1000)∧∀ b∈X.bs,b.length≤1000:=by
 obtain ⟨h1,h2,h3,h4⟩:=a_M h;obtain ⟨m1,m2,m3,-⟩:=a_S h2;have m4:=(mayT_iff.1 h2).2.2;have s:=c_v m1;refine ⟨⟨by omega,h3⟩,⟨(d_t h1).1,by omega,by omega⟩,fun t ht=>?_,fun b hb=>?_⟩
 ·obtain ⟨-,a,-,-,c⟩:=oneW_iff.1 (h4 t ht);simp only [c_p,Bool.and_eq_true,decide_eq_true_eq] at a;have:=a.1
  omega
 ·have a:=m4 b hb;simp only [g_c,Bool.and_eq_true,decide_eq_true_eq] at a;have:=a.1
  omega
def m_r (X:Wo) (k:Int):Int:=if i_B X k=0 then (if g_8 X k.toNat=true then 0 else 9) else i_B X k
def h_B (X:Wo) (k:Int):Wo:=if m_r X k=0 then c_R X k.toNat else zWo
def i_x (Y:Wo) (E:Int) (w:World) (e:Ending) (w':World):Prop:=∃ L,e=.returned (.tuple #[woV L Y.D,.int .i64 E])∧RWo (fun b=>w.heap.size≤b) w' L Y∧Below w.heap.size w w'
theorem i_n {X:Wo} {k E:Int} {w w':World} {v:Value} (hE:m_r X k=E) (h0:E≠0) (hv:v=.tuple #[.agg woZ.toArray,.int .i64 E]) (hb:Below w.heap.size w w'):i_x (h_B X k) E w (.returned v) w':=by
 subst hv;rw [h_B,if_neg (by rw [hE];exact h0)];exact ⟨u_T,rfl,m_h,hb⟩
theorem e_4 (L:WoL) (X:Wo) (k:Int) (w:World) (R:RWo Any w L X) (G:Glob w) (hev:L.ev.n≤100000) (hwf:∀ j i,i < 8→(Lit.int .i64 ((thW X j).r i)).wf=true) :
  Calls Tryz.prog 19 #[woV L X.D,.int .i64 k] w (i_x (h_B X k) (m_r X k) w):=by
 have hmf:=N72;obtain ⟨D,hD⟩:=mn (X.D);have HD:=hid hD;rw [hD];obtain ⟨W,hW⟩:=nm ((w.alloc (Obj.cells (woC L D).toArray 33)).alloc (Obj.cells woZ.toArray 33));have HX:=N53;have HZ:=N241;have HB:=N3;have HS:=N43;have HC0:=j_s L X k W (c_L (b_q HB.out R)) (G.B HB.out);rw [hD] at HC0;have ⟨HC,HW,HR,HWF,HEVN⟩:=hh5 HC0 hW R hwf hev;obtain ⟨E,hE⟩:=mn (i_B X k);rw [hE] at HC;have HE:=hid hE;obtain ⟨E',hE'⟩:∃ E,m_r X k=E:=⟨_,rfl⟩;rw [hE'];have HE':=hid hE';obtain ⟨Y,hY⟩:=mn (h_B X k);rw [hY];have HY:=hid hY;clear hW hD HC0 R G hE hwf hev hE' hY;unfold woV
 go_enter Tryz.func19,Tryz.ntmps19
 go_upto_region 1 with fail
 rw [←HW.out]
 go_wp2_with (refine wpList_load_mid rfl 33 _ rfl w.heap.size 0 rfl (woC L D) _ (a_f HX.out) Tryz.underlying33 rfl (by kernel_rfl) ?_)
 refine HC.out.mono ?_;clear HC;rintro e1 w1 ⟨rfl,hb1⟩;have HB1:=hid (a_a HB.out hb1);have HZ1:=hid (a_h hb1 HZ.out);have HS1:=hid (show w.heap.size+2≤w1.heap.size by have:=hb1.size;have:=HS.out;omega);clear hb1;obtain ⟨cs,hcs⟩:=mn (s_z L D k E);rw [hcs];have HL8:=N163;have HCS:=hid hcs;clear hcs
 go_upto_region 2 with (refine a_c rfl 80 _ _ rfl w1.heap.size cs.toArray rfl rfl _ (a_e woK w1.heap.size rfl) (by rw [List.size_toArray,HL8.out.1];rfl) (by rw [List.size_toArray,HL8.out.1];kernel_rfl) HL8.out.2 ?_;intro U HU)
 have HXU:=N182;have HBU:=N74;have HZU:=hid (show a_p U (w.heap.size+1) woZ by rw [HU.out];exact a_j (by have:=HS1.out;omega) (a_s _ HZ1.out));have HSU:=hid (show U.heap.size=w1.heap.size+1 by rw [HU.out,a_O];simp);clear HU
 by_cases h0:E=0
 ·obtain ⟨hr,hk0,hk1⟩:=j_r (HE.out.trans h0);obtain ⟨j,hj⟩:∃ j:Nat,k=j:=⟨k.toNat,by omega⟩;subst hj;have hcw:cs=wkC L D j:=by rw [←HCS.out,s_z,if_pos h0]
  have HJ:=hid (show j < X.th.length by omega);have HRW:=hid hr;obtain ⟨b,o,H⟩:=u_v (w:=U) (g:=w1.heap.size) (L:=L) (X:=X) (k:=j) (by rw [HD.out,←hcw];exact HXU.out) (c_L (b_q HBU.out HR.out)) HJ.out;have HC:=hid (l_R w1.heap.size b o L X j U H hr (fun i hi=>HWF.out j i hi));have HCW:=hid hcw;clear H hr hk0 hk1 hcw;subst h0
  go_upto_region 4 with fail
  go_wp2_with fail
  refine HC.out.mono ?_;clear HC;rintro e2 w2 ⟨rfl,hb2⟩;have HB2:=hid (a_a HBU.out hb2);have HZ2:=hid (a_h hb2 HZU.out);have HX2:=hid (a_h hb2 HXU.out);have HS2:=N228;clear hb2
  cases hc:g_8 X j with
  | false =>
   have HEV:=hid (show E'=9 by rw [←HE'.out,m_r,if_pos HE.out,Int.toNat_natCast,hc,if_neg (by decide)]);clear hc
   go_wp2_with (refine a_c rfl 33 _ _ rfl (w.heap.size+1) woZ.toArray rfl rfl _ HZ2.out rfl (by kernel_rfl) (by simp [Value.oneCell']) ?_;intro V HV)
   refine a_m ⟨w.heap.size+1,0,none⟩ rfl rfl rfl (a_E (show a_p V (w.heap.size+1) woZ by rw [HV.out];exact a_q HZ2.out rfl) 33 Tryz.underlying33 rfl (by kernel_rfl)) ?_;rw [←HY.out];exact i_n HE'.out (by rw [HEV.out];decide) (by rw [HEV.out];rfl) (by rw [HV.out];exact a_g (by omega) HB2.out)
  | true =>
   have HEV:=hid (show E'=0 by rw [←HE'.out,m_r,if_pos HE.out,Int.toNat_natCast,hc,if_pos rfl]);have HCN:=hid hc;clear hc;obtain ⟨⟨a1,a2⟩,⟨a3,a4,a5⟩,a6,a7⟩:=okS HRW.out;have HC0:=k_H L X j w2 (c_L (b_q HB2.out HR.out)) (by have:=HR.out.th.1;omega) (by have:=HR.out.th.1;omega) (by have:=HR.out.th.1;have:=HR.out.bs.1;omega) (by have:=HR.out.co.1;omega) (by have:=HR.out.ws.1;omega) (by have:=HR.out.ts.1;omega) (by have:=HEVN.out;omega) a6 a7;rw [HD.out] at HC0;have HC:=hid HC0;clear HC0 a1 a2 a3 a4 a5 a6 a7
   go_upto_region 6 with fail
   go_wp2_with (refine wpList_load_mid rfl 80 _ rfl w1.heap.size 0 rfl (wkC L D j) _ (a_f (HCW.out▸HX2.out)) Tryz.underlying80 rfl (by kernel_rfl) ?_)
   refine HC.out.mono ?_;clear HC;rintro e3 w3 ⟨Q3,L3,b3,he3,H3,hb3⟩;rw [HD.out] at he3;subst he3;have HB3:=hid (a_a HB2.out hb3);have HZ3:=hid (a_h hb3 HZ2.out);have HX3:=hid (a_h hb3 HX2.out);have HN3:=hid (show L3.ev.n≤200000 by have:=t_x H3;have:=HR.out.ev.1;have:=HEVN.out;omega);have HF3:=hid H3.hF;have HO3:=hid (show ∀ c,(Value.slice L3.ev.a L3.ev.n L3.ev.c).ownBlock=some c→w2.heap.size≤c∧c < w3.heap.size from fun c hc=>⟨(H3.evo c hc).1,t_w H3 c hc⟩)
   have HBL:=hid (show b3 < w3.heap.size by
    obtain ⟨TC,h1,h2⟩:=H3.tc;have h3:=b_f h2;have h4:repTh.k=13:=rfl;have h5:=HJ.out;exact a_N h1 (by rw [h3,h4];omega))
   have HZL:=hid (show w1.heap.size < w3.heap.size by have:=hb3.size;have:=HS2.out;omega);have H4:=u_u (k:=j) HX3.out HL8.out.1 (by have:=HS2.out;omega) H3 HJ.out;rw [HD.out] at H4;have HH4:=hid H4;clear hb3 H3 H4
   go_upto_region 7 with (refine a_c rfl 80 _ _ rfl w1.heap.size (wkC L3 D j).toArray rfl rfl _ HX3.out (by rw [HL8.out.1];rfl) (by kernel_rfl) (by simp [Value.oneCell']) ?_;intro V HV)
   have HHV:=hid (show Wk Q3 V w1.heap.size b3 L3 X j by rw [HV.out];exact HH4.out);have HBV:=hid (show Below w.heap.size w V by rw [HV.out];exact a_g HB1.out.size HB3.out);have HZV:=hid (show a_p V (w.heap.size+1) woZ by rw [HV.out];exact a_j (by have:=HS1.out;omega) HZ3.out);have HSV:=hid (show V.heap.size=w3.heap.size by rw [HV.out,a_O]);clear HV HH4;obtain ⟨Sx,hSx⟩:∃ Sx:Nat→Prop,Sx=fun c=>c=w1.heap.size∨c=b3∨(Value.slice L3.ev.a L3.ev.n L3.ev.c).ownBlock=some c:=⟨_,rfl⟩
   have HSX:=hid (show ∀ c,Sx c→w1.heap.size≤c∧c < w3.heap.size by
    intro c hc;rw [hSx] at hc;have e1:=HF3.out;have e2:=HS2.out;have e3:=HBL.out;have e4:=HZL.out
    rcases hc with h | h | h
    ·omega
    ·omega
    ·have:=HO3.out c h;omega)
   have HC:=hid (k_w Q3 w1.heap.size b3 Sx L3 X j V HHV.out ⟨⟨by rw [hSx];exact .inl rfl,by rw [hSx];exact .inr (.inl rfl)⟩,fun h=>by have:=HSX.out _ h;have:=HSV.out;omega⟩ HRW.out HCN.out (fun i hi=>HWF.out j i hi) HN3.out (fun q hq=>by rw [hSx];exact .inr (.inr hq)));clear hSx;have HY4:=hid (show c_R X j=Y by rw [←HY.out,h_B,if_pos (HE'.out.trans HEV.out),Int.toNat_natCast])
   go_upto_region 8 with fail
   refine HC.out.mono ?_;clear HC;rintro e4 w4 ⟨rfl,Q4,L4,H4,hb4⟩;rw [HY4.out] at H4;have HB4:=hid (show Below w.heap.size w w4 from HBV.out.trans (hb4.below (fun c hc=>by have:=HSX.out c hc;have:=HS1.out;omega) HBV.out.size));have HZ4:=hid (hb4.varN (fun h=>by have:=HSX.out _ h;have:=HS1.out;omega) HZV.out);have HX4:=hid (show a_p w4 w1.heap.size (woC L4 Y.D) from fun i v hi=>H4.x i v (by rw [show wkC L4 Y.D j=woC L4 Y.D++[.int .i64 j] from rfl,List.getElem?_append_left (List.getElem?_eq_some_iff.1 hi).1];exact hi));have HH4:=hid H4;clear H4 hb4
   go_wp2_with (first | (refine wpList_load_mid rfl 33 _ rfl w1.heap.size 0 rfl (woC L4 Y.D) _ (a_f HX4.out) Tryz.underlying33 rfl (by kernel_rfl) ?_) | (refine a_c rfl 33 _ _ rfl (w.heap.size+1) (woC L4 Y.D).toArray rfl rfl _ HZ4.out rfl (by kernel_rfl) (by simp [Value.oneCell']) ?_;intro Z HZZ))
   refine a_m ⟨w.heap.size+1,0,none⟩ rfl rfl rfl (a_E (show a_p Z (w.heap.size+1) (woC L4 Y.D) by rw [HZZ.out];exact a_q HZ4.out rfl) 33 Tryz.underlying33 rfl (by kernel_rfl)) ?_;exact ⟨L4,by rw [HEV.out];rfl,by rw [HZZ.out];exact a_D (fun c hc=>by omega) (u_k HH4.out (by have:=HS1.out;omega) (by have:=HF3.out;have:=HS1.out;have:=HS2.out;omega)),by rw [HZZ.out];exact a_g (by omega) HB4.out⟩
 ·have hb:(E != 0)=true:=by simpa using h0
  have HEV:=hid (show E'=E by rw [←HE'.out,m_r,if_neg (by rw [HE.out];exact h0)];exact HE.out);have H0:=hid h0;clear h0
  go_wp2_with (refine a_c rfl 33 _ _ rfl (w.heap.size+1) woZ.toArray rfl rfl _ HZU.out rfl (by kernel_rfl) (by simp [Value.oneCell']) ?_;intro V HV)
  refine a_m ⟨w.heap.size+1,0,none⟩ rfl rfl rfl (a_E (show a_p V (w.heap.size+1) woZ by rw [HV.out];exact a_q HZU.out rfl) 33 Tryz.underlying33 rfl (by kernel_rfl)) ?_;rw [←HY.out];exact i_n HE'.out (by rw [HEV.out];exact H0.out) (by rw [HEV.out];rfl) (by rw [HV.out];exact a_g (by omega) HBU.out)
end Go.Proofs.YtogdpojnbgeknaaGreatDoor
