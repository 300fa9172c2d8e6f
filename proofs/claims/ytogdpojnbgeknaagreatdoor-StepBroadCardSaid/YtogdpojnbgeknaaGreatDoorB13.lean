import Derived.Test.YtogdpojnbgeknaaGreatDoorB11
import Derived.Test.YtogdpojnbgeknaaGreatDoorB4
import Derived.Test.YtogdpojnbgeknaaGreatDoorB12
import Derived.Test.YtogdpojnbgeknaaGreatDoorB0
import Derived.Test.YtogdpojnbgeknaaGreatDoorB8
import Derived.Test.YtogdpojnbgeknaaGreatDoorB5
import Derived.Test.YtogdpojnbgeknaaGreatDoorB2
set_option maxRecDepth 100000
set_option maxHeartbeats 16000000
namespace Go.Proofs.YtogdpojnbgeknaaGreatDoor
open Go.ChangeShapes Go.WideShapes Go.ChangeAt Go.RowKit
open Gen
open Lib (hid)
def i_B (X:Wo) (k:Int):Int:=if a_6 X=true then (if f_r X k=true then 0 else 3) else 1
def s_z (L:WoL) (D k:Int) (E:Int):List Value:=if E=0 then wkC L D k else woK
def n_E (L:WoL) (D k E:Int) (w:World) (e:Ending) (w':World):Prop:=e=.returned (.tuple #[.agg (s_z L D k E).toArray,.int .i64 E])∧Below w.heap.size w w'
theorem j_s (L:WoL) (X:Wo) (k:Int) (w:World) (R:RWo Any w L X) (G:Glob w) :
  Calls Tryz.prog 38 #[woV L X.D,.int .i64 k] w (n_E L X.D k (i_B X k) w):=by
 obtain ⟨D,hD⟩:=mn (X.D);have HD:=hid hD;rw [hD];obtain ⟨W,hW⟩:=nm ((w.alloc (Obj.cells (woC L D).toArray 33)).alloc (Obj.cells woK.toArray 80));have HX:=N53;have HZ:=N240;have HB:=N3;have HC0:=i_4 L X W (c_L (b_q HB.out R)) (G.B HB.out);rw [hD] at HC0;have ⟨HC,HW⟩:=hh2 HC0 hW;have HTN:=N146;obtain ⟨E,hE⟩:=mn (i_B X k);rw [hE];have HE:=hid hE;clear hW hD HC0 R G hE;unfold woV
 go_enter Tryz.func38,Tryz.ntmps38
 go_upto_region 1 with fail
 rw [←HW.out]
 go_wp2_with (refine wpList_load_mid rfl 33 _ rfl w.heap.size 0 rfl (woC L D) _ (a_f HX.out) Tryz.underlying33 rfl (by kernel_rfl) ?_)
 refine HC.out.mono ?_;clear HC;rintro e1 w1 ⟨rfl,hb1⟩;have HX1:=hid (a_h hb1 HX.out);have HZ1:=hid (a_h hb1 HZ.out);have HB1:=hid (a_a HB.out hb1);clear hb1
 cases hr:a_6 X with
 | false =>
  have HEV:=hid (show E=1 by rw [←HE.out,i_B,hr];rfl);clear hr;exact J31
 | true =>
  have HR:=hid hr;clear hr
  by_cases h0:0≤k
  ·by_cases h1:k < L.th.n
   ·have HEV:=hid (show E=0 by rw [←HE.out,i_B,if_pos HR.out,f_r,HTN.out,decide_eq_true ⟨h0,h1⟩];rfl);obtain ⟨x5,-⟩:=HX1.out 5 _ rfl;have h2:¬ k < 0:=by omega
    have h3:¬ (L.th.n:Int)≤k:=by omega
    go_wp2_with (first | (refine wpList_load_mid rfl 33 _ rfl w.heap.size 0 rfl (woC L D) _ (a_f HX1.out) Tryz.underlying33 rfl (by kernel_rfl) ?_) | (refine a_c rfl 80 _ _ rfl (w.heap.size+1) (wkC L D k).toArray rfl rfl _ HZ1.out rfl (by kernel_rfl) (by simp [Value.oneCell']) ?_;intro U HU))
    refine a_m ⟨w.heap.size+1,0,none⟩ rfl rfl rfl (a_E (show a_p U (w.heap.size+1) (wkC L D k) by rw [HU.out];exact a_q HZ1.out rfl) 80 Tryz.underlying80 rfl (by kernel_rfl)) ?_;exact ⟨by rw [HEV.out];rfl,by rw [HU.out];exact a_g (by omega) HB1.out⟩
   ·have HEV:=hid (show E=3 by rw [←HE.out,i_B,if_pos HR.out,f_r,HTN.out,decide_eq_false (fun h=>h1 h.2)];rfl);obtain ⟨x5,-⟩:=HX1.out 5 _ rfl;have h2:¬ k < 0:=by omega
    have h3:(L.th.n:Int)≤k:=by omega
    exact J31
  ·have HEV:=hid (show E=3 by rw [←HE.out,i_B,if_pos HR.out,f_r,decide_eq_false (fun h=>h0 h.1)];rfl);have h2:k < 0:=by omega
   exact J31
theorem j_r {X:Wo} {k:Int} (h:i_B X k=0):a_6 X=true∧0≤k∧k < X.th.length:=by
 unfold i_B at h
 split at h
 ·rename_i h1
  split at h
  ·rename_i h2
   simp only [f_r,decide_eq_true_eq] at h2;exact ⟨h1,h2⟩
  ·omega
 ·omega
theorem u_v {w:World} {g:Nat} {L:WoL} {X:Wo} {k:Nat} (hx:a_p w g (wkC L X.D k)) (R:RWo Any w L X) (hk:k < X.th.length):∃ b o,Wr w g b o L X k:=by
 obtain ⟨b,o,_,_,_,_,_,e,-⟩:=c_3 R.th (k:=k) (by have:=R.th.1;omega);exact ⟨b,o,hx,e,R.th,R.co,R.ws,R.ts,R.bs,hk,R.th.1⟩
def s_l (b:Bool) (E:Int) (w:World) (e:Ending) (w':World):Prop:=e=.returned (.tuple #[.bool b,.int .i64 E])∧Below w.heap.size w w'
theorem l_q (L:WoL) (X:Wo) (k:Int) (w:World) (R:RWo Any w L X) (G:Glob w) (hwf:∀ j i,i < 8→(Lit.int .i64 ((thW X j).r i)).wf=true) :
  Calls Tryz.prog 16 #[woV L X.D,.int .i64 k] w (s_l (if i_B X k=0 then g_8 X k.toNat else false) (i_B X k) w):=by
 obtain ⟨D,hD⟩:=mn (X.D);have HD:=hid hD;rw [hD];obtain ⟨W,hW⟩:=nm (w.alloc (Obj.cells (woC L D).toArray 33));have HX:=N125;have HB:=N3;have HC0:=j_s L X k W (c_L (b_q HB.out R)) (G.B HB.out);rw [hD] at HC0;have ⟨HC,HW,HR,HWF⟩:=hh4 HC0 hW R hwf;obtain ⟨E,hE⟩:=mn (i_B X k);rw [hE] at HC ⊢;have HE:=hid hE;obtain ⟨y,hy⟩:=mn ((if E=0 then g_8 X k.toNat else false));rw [hy];have HY:=hid hy;clear hW hD HC0 R G hE hwf hy;unfold woV
 go_enter Tryz.func16,Tryz.ntmps16
 go_upto_region 1 with fail
 rw [←HW.out]
 go_wp2_with (refine wpList_load_mid rfl 33 _ rfl w.heap.size 0 rfl (woC L D) _ (a_f HX.out) Tryz.underlying33 rfl (by kernel_rfl) ?_)
 refine HC.out.mono ?_;clear HC;rintro e1 w1 ⟨rfl,hb1⟩;have HB1:=hid (a_a HB.out hb1);clear hb1;obtain ⟨cs,hcs⟩:=mn (s_z L D k E);rw [hcs];have HL8:=N163;have HCS:=hid hcs;clear hcs
 go_upto_region 2 with (refine a_c rfl 80 _ _ rfl w1.heap.size cs.toArray rfl rfl _ (a_e woK w1.heap.size rfl) (by rw [List.size_toArray,HL8.out.1];rfl) (by rw [List.size_toArray,HL8.out.1];kernel_rfl) HL8.out.2 ?_;intro U HU)
 have HXU:=N182;have HBU:=N74;clear HU
 by_cases h0:E=0
 ·obtain ⟨hr,hk0,hk1⟩:=j_r (HE.out.trans h0);obtain ⟨j,hj⟩:∃ j:Nat,k=j:=⟨k.toNat,by omega⟩;subst hj;have hcw:cs=wkC L D j:=by rw [←HCS.out,s_z,if_pos h0]
  have HYV:=hid (show g_8 X j=y by rw [←HY.out,if_pos h0,Int.toNat_natCast]);obtain ⟨b,o,H⟩:=u_v (w:=U) (g:=w1.heap.size) (L:=L) (X:=X) (k:=j) (by rw [HD.out,←hcw];exact HXU.out) (c_L (b_q HBU.out HR.out)) (by omega);have HC0:=l_R w1.heap.size b o L X j U H hr (fun i hi=>HWF.out j i hi);rw [HYV.out] at HC0;have HC:=hid HC0;clear HC0 H hcw hr hk0 hk1;subst h0
  go_wp2_with fail
  refine HC.out.mono ?_;clear HC;rintro e2 w2 ⟨rfl,hb2⟩;have HB2:=hid (a_a HBU.out hb2);clear hb2
  go_wp2_with fail
  go_ret2
  exact ⟨rfl,HB2.out⟩
 ·have hb:(E != 0)=true:=by simpa using h0
  have HYV:=hid (show false=y by rw [←HY.out,if_neg h0]);clear h0
  go_wp2_with fail
  go_ret2
  have h:=HYV.out;subst h;exact ⟨rfl,HBU.out⟩
abbrev h_7 (e:Int):Value:=.iface 133 (.agg #[.int .i64 e])
abbrev l_V (e:Int):List PanicEntry:=[{ v:=h_7 e,recovered:=false }]
def g_N (v:Value) (x:Int) (w:World) (e:Ending) (w':World):Prop:=((x=0∧e=.returned v)∨(x≠0∧e=.panicked (l_V x)))∧Below w.heap.size w w'
theorem o_V (v x:Int) (w:World):Calls Tryz.prog 119 #[.int .i64 v,.int .i64 x] w (g_N (.int .i64 v) x w):=by
 by_cases h0:x=0
 ·subst h0
  go_enter Tryz.func119,Tryz.ntmps119
  go_wp2
  go_ret
  exact ⟨.inl ⟨rfl,rfl⟩,Below.refl _ _⟩
 ·have hb:=N203
  go_enter Tryz.func119,Tryz.ntmps119
  go_wp2
  exact And.intro rfl ⟨.inr ⟨h0,rfl⟩,Below.refl _ _⟩
theorem o_W (s1 s2:Sp) (x:Int) (w:World):Calls Tryz.prog 49 #[.agg #[.slice s1.a s1.n s1.c,.slice s2.a s2.n s2.c],.int .i64 x] w (g_N (.agg #[.slice s1.a s1.n s1.c,.slice s2.a s2.n s2.c]) x w):=by
 obtain ⟨W,hW⟩:=nm ((w.alloc (Obj.cells #[.slice s1.a s1.n s1.c,.slice s2.a s2.n s2.c] 26)).alloc (Obj.cells #[.slice none 0 0,.slice none 0 0] 26));have HX:=hid (show a_p W w.heap.size [.slice s1.a s1.n s1.c,.slice s2.a s2.n s2.c] by rw [hW];exact a_s _ (a_e [.slice s1.a s1.n s1.c,.slice s2.a s2.n s2.c] _ rfl));have HZ:=hid (show a_p W (w.heap.size+1) [.slice none 0 0,.slice none 0 0] by rw [hW];exact a_e [.slice none 0 0,.slice none 0 0] _ (by simp));have HB:=N3;have HW:=hid hW;clear hW
 by_cases h0:x=0
 ·subst h0
  go_enter Tryz.func49,Tryz.ntmps49
  go_upto_region 1 with fail
  rw [←HW.out]
  go_wp2_with (first | (refine wpList_load_mid rfl 26 _ rfl w.heap.size 0 rfl [.slice s1.a s1.n s1.c,.slice s2.a s2.n s2.c] _ (a_f HX.out) Tryz.underlying26 rfl (by kernel_rfl) ?_) | (refine a_c rfl 26 _ _ rfl (w.heap.size+1) #[.slice s1.a s1.n s1.c,.slice s2.a s2.n s2.c] rfl rfl _ HZ.out rfl (by kernel_rfl) (by simp [Value.oneCell']) ?_;intro U HU))
  refine a_X ⟨w.heap.size+1,0,none⟩ rfl rfl rfl (a_E (cs:=[.slice s1.a s1.n s1.c,.slice s2.a s2.n s2.c]) (by rw [HU.out];exact a_q HZ.out rfl) 26 Tryz.underlying26 rfl (by kernel_rfl)) ?_;exact ⟨.inl ⟨rfl,rfl⟩,by rw [HU.out];exact a_g (by omega) HB.out⟩
 ·have hb:=N203;have HX0:=hid h0;clear h0
  go_enter Tryz.func49,Tryz.ntmps49
  exact J87
theorem j_P (s1 s2 s3:Sp) (D:Int) (x:Int) (w:World):Calls Tryz.prog 121 #[.agg #[.slice s1.a s1.n s1.c,.slice s2.a s2.n s2.c,.int .i64 D,.slice s3.a s3.n s3.c],.int .i64 x] w (g_N (.agg #[.slice s1.a s1.n s1.c,.slice s2.a s2.n s2.c,.int .i64 D,.slice s3.a s3.n s3.c]) x w):=by
 obtain ⟨W,hW⟩:=nm ((w.alloc (Obj.cells #[.slice s1.a s1.n s1.c,.slice s2.a s2.n s2.c,.int .i64 D,.slice s3.a s3.n s3.c] 30)).alloc (Obj.cells #[.slice none 0 0,.slice none 0 0,.int .i64 0,.slice none 0 0] 30));have HX:=hid (show a_p W w.heap.size [.slice s1.a s1.n s1.c,.slice s2.a s2.n s2.c,.int .i64 D,.slice s3.a s3.n s3.c] by rw [hW];exact a_s _ (a_e [.slice s1.a s1.n s1.c,.slice s2.a s2.n s2.c,.int .i64 D,.slice s3.a s3.n s3.c] _ rfl));have HZ:=hid (show a_p W (w.heap.size+1) [.slice none 0 0,.slice none 0 0,.int .i64 0,.slice none 0 0] by rw [hW];exact a_e [.slice none 0 0,.slice none 0 0,.int .i64 0,.slice none 0 0] _ (by simp));have HB:=N3;have HW:=hid hW;clear hW
 by_cases h0:x=0
 ·subst h0
  go_enter Tryz.func121,Tryz.ntmps121
  go_upto_region 1 with fail
  rw [←HW.out]
  go_wp2_with (first | (refine wpList_load_mid rfl 30 _ rfl w.heap.size 0 rfl [.slice s1.a s1.n s1.c,.slice s2.a s2.n s2.c,.int .i64 D,.slice s3.a s3.n s3.c] _ (a_f HX.out) Tryz.underlying30 rfl (by kernel_rfl) ?_) | (refine a_c rfl 30 _ _ rfl (w.heap.size+1) #[.slice s1.a s1.n s1.c,.slice s2.a s2.n s2.c,.int .i64 D,.slice s3.a s3.n s3.c] rfl rfl _ HZ.out rfl (by kernel_rfl) (by simp [Value.oneCell']) ?_;intro U HU))
  refine a_X ⟨w.heap.size+1,0,none⟩ rfl rfl rfl (a_E (cs:=[.slice s1.a s1.n s1.c,.slice s2.a s2.n s2.c,.int .i64 D,.slice s3.a s3.n s3.c]) (by rw [HU.out];exact a_q HZ.out rfl) 30 Tryz.underlying30 rfl (by kernel_rfl)) ?_;exact ⟨.inl ⟨rfl,rfl⟩,by rw [HU.out];exact a_g (by omega) HB.out⟩
 ·have hb:=N203;have HX0:=hid h0;clear h0
  go_enter Tryz.func121,Tryz.ntmps121
  exact J87
theorem o_U (t:Thr) (fa la:Option Addr) (fn fc ln lc:Nat) (x:Int) (w:World):Calls Tryz.prog 92 #[.agg (thC t fa fn fc la ln lc).toArray,.int .i64 x] w (g_N (.agg (thC t fa fn fc la ln lc).toArray) x w):=by
 obtain ⟨W,hW⟩:=nm ((w.alloc (Obj.cells (thC t fa fn fc la ln lc).toArray 46)).alloc (Obj.cells thN.toArray 46));have HX:=hid (show a_p W w.heap.size (thC t fa fn fc la ln lc) by rw [hW];exact a_s _ (a_e (thC t fa fn fc la ln lc) _ rfl));have HZ:=hid (show a_p W (w.heap.size+1) thN by rw [hW];exact a_e thN _ (by simp));have HB:=N3;have HW:=hid hW;clear hW
 by_cases h0:x=0
 ·subst h0
  go_enter Tryz.func92,Tryz.ntmps92
  go_upto_region 1 with fail
  rw [←HW.out]
  go_wp2_with (first | (refine wpList_load_mid rfl 46 _ rfl w.heap.size 0 rfl (thC t fa fn fc la ln lc) _ (a_f HX.out) Tryz.underlying46 rfl (by kernel_rfl) ?_) | (refine a_c rfl 46 _ _ rfl (w.heap.size+1) (thC t fa fn fc la ln lc).toArray rfl rfl _ HZ.out rfl (by kernel_rfl) (by simp [Value.oneCell']) ?_;intro U HU))
  refine a_X ⟨w.heap.size+1,0,none⟩ rfl rfl rfl (a_E (cs:=(thC t fa fn fc la ln lc)) (by rw [HU.out];exact a_q HZ.out rfl) 46 Tryz.underlying46 rfl (by kernel_rfl)) ?_;exact ⟨.inl ⟨rfl,rfl⟩,by rw [HU.out];exact a_g (by omega) HB.out⟩
 ·have hb:=N203;have HX0:=hid h0;clear h0
  go_enter Tryz.func92,Tryz.ntmps92
  exact J87
end Go.Proofs.YtogdpojnbgeknaaGreatDoor
namespace Go.Proofs.YtogdpojnbgeknaaGreatDoor
open Go.ChangeShapes Go.WideShapes Go.ChangeAt Go.RowKit
structure Only (q:Nat) (w w':World):Prop where
 os:w'.os=w.os
 tape:w'.tape=w.tape
 output:w'.output=w.output
 size:w.heap.size≤w'.heap.size
 block:∀ k,k < w.heap.size→k≠q→w'.heap[k]?=w.heap[k]?
theorem Only.refl (q:Nat) (w:World):Only q w w:=⟨rfl,rfl,rfl,Nat.le_refl _,fun _ _ _=>rfl⟩
theorem Only.below {q:Nat} {w a b:World} (h:Only q w a) (h':Below a.heap.size a b):Only q w b:=
 ⟨h'.os.trans h.os,h'.tape.trans h.tape,h'.output.trans h.output,Nat.le_trans h.size h'.size,fun k hk hq=>by rw [h'.block k (by have:=h.size;omega),h.block k hk hq]⟩
theorem Only.set {q:Nat} {w a:World} (h:Only q w a) (p:Addr) (hp:p.block=q) (v:Value):Only q w (a.setCell p v):=
 ⟨h.os,h.tape,h.output,by simpa using h.size,fun k hk hq=>by rw [Below.heap_setCell _ _ _ _ (by omega),h.block k hk hq]⟩
theorem Only.cell {q:Nat} {w a:World} {p:Addr} {v:Value} (h:Only q w a) (hp:p.block≠q) (hc:w.cell? p=some v):a.cell? p=some v:=by
 rw [World.cell?_of_block (w:=w) (h.block _ (b_d hc) hp)];exact hc
theorem Only.to_below {q:Nat} {w0 w a:World} (h:Only q w a) (hb:Below w0.heap.size w0 w) (hq:w0.heap.size≤q):Below w0.heap.size w0 a:=
 hb.trans ⟨h.os,h.tape,h.output,h.size,fun k hk=>h.block k (by have:=hb.size;omega) (by omega)⟩
def k_q (ws ts:List Int) (i:Nat) (tag:Int) (p q:Nat) (W:World) (j:Nat) (wr:World):Prop:=
 f_o (j_g tag) ts i j=0∧Only q W wr∧wr.heap[p]?=some (.cells (Ir ws) 3)∧wr.heap[q]?=some (.cells (Ir (k_o ts i tag j)) 3)
theorem Only.frozen {q:Nat} {w a:World} {p:Addr} {v:Value} (h:Only q w a) (hp:p.block≠q) (hc:w.cell? p=some v):a.frozen? p=w.frozen? p:=
 World.frozen?_of_block (w:=w) (h.block _ (b_d hc) hp)
theorem o_k {w:World} {a:Addr} {v:Value} (o:Obj) (h:w.cell? a=some v):(w.alloc o).frozen? a=w.frozen? a:=
 World.frozen?_of_block (w:=w) (b_r w o _ (b_d h))
theorem u_j {ws ts:List Int} {i:Nat} {tag:Int} {p q:Nat} {W wr w':World} {j:Nat} (h:k_q ws ts i tag p q W j wr) (hpq:p≠q) (hb:Below wr.heap.size wr w') (he:j_g tag (ts.getD (i+j) 0)=0) :
  k_q ws ts i tag p q W (j+1) (w'.setCell ⟨q,i+j,none⟩ (.int .i64 tag)):=by
 obtain ⟨h1,h2,h3,h4⟩:=h;refine ⟨by simp only [f_o];rw [if_pos h1,he],(h2.below hb).set _ rfl _,?_,?_⟩
 ·rw [Below.heap_setCell _ _ _ _ hpq,hb.block _ (g_f h3)];exact h3
 ·exact p_A (by rw [hb.block _ (g_f h4)];exact h4)
theorem j_N {ws ts:List Int} {i k j:Nat} {tag:Int} (hm:d_g ws ts=true) (hw:b_7 ws.length i k=true) (ht:tag=1∨tag=2) (hj:j < k) (h:f_o (j_g tag) ts i j=0) (he:j_g tag (ts.getD (i+j) 0)≠0) :
  c_F ws ts i k tag=j_g tag (ts.getD (i+j) 0)∧c_5 ws ts i k tag=[]∧c_O ws ts i k tag=[]:=by
 have e:c_F ws ts i k tag=j_g tag (ts.getD (i+j) 0):=by
  rw [c_F,if_pos ⟨hm,ht⟩,if_pos hw];exact h_x h rfl he (by simpa using hj)
 exact ⟨e,by rw [c_5,if_neg (by rw [e];exact he)],by rw [c_O,if_neg (by rw [e];exact he)]⟩
theorem j_M {ws ts:List Int} {i k:Nat} {tag:Int} (hm:d_g ws ts=true) (hw:b_7 ws.length i k=true) (ht:tag=1∨tag=2) (h:f_o (j_g tag) ts i k=0) :
  c_F ws ts i k tag=0∧c_5 ws ts i k tag=ws∧c_O ws ts i k tag=k_o ts i tag k:=by
 have e:c_F ws ts i k tag=0:=by
  rw [c_F,if_pos ⟨hm,ht⟩,if_pos hw];simpa using h
 exact ⟨e,by rw [c_5,if_pos e],by rw [c_O,if_pos e];simp⟩
theorem p_q (tag t:Int) (w:World) (f:Nat) (hf:(tag=1∧f=164)∨(tag=2∧f=126)) (h0:0≤t) (h2:t≤2) :
  Calls Tryz.prog f #[.int .i64 t] w fun e w'=>e=.returned (.int .i64 (j_g tag t))∧Below w.heap.size w w':=by
 rcases hf with ⟨rfl,rfl⟩ | ⟨rfl,rfl⟩
 ·exact h_I t w h0 h2
 ·exact f_u t w h0 h2
theorem n_H (b1 o1 b2 o2 n c c':Nat) (ws ts:List Int) (i k:Nat) (tag:Int) (f:Nat) (hf:(tag=1∧f=164)∨(tag=2∧f=126)) (w:World)
  (S1:Sl w (some ⟨b1,o1,none⟩) n ws) (S2:Sl w (some ⟨b2,o2,none⟩) n ts) (hn:ws.length=n) (hn':ts.length=n) (R1:Row w b1 o1 ws) (R2:Row w b2 o2 ts) (hm:d_g ws ts=true) (hk:1≤k) (hik:i+k≤n) (z4:n≤160) :
  Calls Tryz.prog 153 #[.agg #[.slice (some ⟨b1,o1,none⟩) n c,.slice (some ⟨b2,o2,none⟩) n c'],.int .i64 i,.int .i64 k,.int .i64 tag] w (j_l (c_5 ws ts i k tag) (c_O ws ts i k tag) (c_F ws ts i k tag) w):=by
 have ⟨Hn,Hn',Hm⟩:=hh3 hn hn' hm;have HT:=Lib.hid (fun j (hj:j < ts.length)=>g_P hm j (by rw [Hn.out,←Hn'.out];exact hj));have HI:b_7 n i k=true:=by simp [b_7];omega
 have HI':=Lib.hid HI;clear hn hn' hm HI;have HG:Hid (tag=1∨tag=2):=hf.imp (fun h=>h.1) (fun h=>h.1)
 have b0:(tag=1∧(tag != 1)=false∧(tag==1)=true∧f=164)∨(tag=2∧(tag != 1)=true∧(tag != 2)=false∧(tag==1)=false∧f=126):=by
  rcases hf with ⟨rfl,rfl⟩ | ⟨rfl,rfl⟩ <;> simp
 clear hf
 rcases b0 with ⟨h1,b1',b2',rfl⟩ | ⟨h1,b1',b2',b3',rfl⟩
 all_goals
  have HF:=Lib.hid h1;clear h1
  go_enter Tryz.func153,Tryz.ntmps153
  go_wp2_with fail
  refine (c_m _ _ n c n c' ws ts _ (slA _ (slA _ S1)) (slA _ (slA _ S2))).mono ?_;rintro e w1 ⟨rfl,hb⟩;have hb1:=N6;obtain ⟨hc,hfr⟩:=g_I hb;have hs1:=N83;rw [Hm.out]
  go_wp2_with fail
  refine (g_w _ _ n c n c' i k _ z4 (by omega) (by omega)).mono ?_;rintro e w2 ⟨rfl,hb'⟩;have hb2:=N170;obtain ⟨hc',hfr'⟩:=g_I hb';have hs2:=N186;have hs0:w.heap.size < w1.heap.size:=by omega
  rw [HI'.out]
  go_wp2_with fail
  refine (h_a b1 o1 b2 o2 n c c' ws ts _ Hn.out Hn'.out (p_5 hb2 R1) (p_5 hb2 R2) z4).mono ?_;rintro e w3 ⟨p,q,rfl,hpq,hp,hq,hhp,hhq,hb''⟩;have hb3:Below w.heap.size w w3:=hb2.trans (hb''.mono hb2.size);have hs3:w.heap.size+1 < w3.heap.size:=by have:=hb''.size;omega
  have r0:w3.cell? ⟨w.heap.size+1,0,none⟩=some (.slice none 0 0):=by rw [hb''.cell (p:=⟨w.heap.size+1,0,none⟩) (by simp;omega),hc' _ _ (by omega),hc _ _ (by simp)];simp
  have r1:w3.cell? ⟨w.heap.size+1,1,none⟩=some (.slice none 0 0):=by rw [hb''.cell (p:=⟨w.heap.size+1,1,none⟩) (by simp;omega),hc' _ _ (by omega),hc _ _ (by simp)];simp
  have r2:w3.cell? ⟨w.heap.size,1,none⟩=some (.slice (some ⟨b2,o2,none⟩) n c'):=by rw [hb''.cell (p:=⟨w.heap.size,1,none⟩) (by simp;omega),hc' _ _ (by omega),hc _ _ (by simp;omega)];simp
  have r3:w3.frozen? ⟨w.heap.size+1,0,none⟩=false:=by rw [hb''.frozen (p:=⟨w.heap.size+1,0,none⟩) (by simp;omega),hfr' _ _ (by omega),hfr _ _ (by simp)];exact b_F (a_4 _ _ _ (by simp))
  have r4:w3.frozen? ⟨w.heap.size+1,1,none⟩=false:=by rw [hb''.frozen (p:=⟨w.heap.size+1,1,none⟩) (by simp;omega),hfr' _ _ (by omega),hfr _ _ (by simp)];exact b_F (a_4 _ _ _ (by simp))
  have hp3:=g_f hhp;have hq3:=g_f hhq;have ⟨Hp,Hq⟩:=hh2 hhp hhq;have Rt:=p_5 hb3 R2;clear hc hfr hc' hfr' hhp hhq;have m0:=a_8 (Obj.cells #[.slice (some ⟨p,0,none⟩) n n,.slice (some ⟨q,0,none⟩) n n] 26) r0;have m1:=a_8 (Obj.cells #[.slice (some ⟨p,0,none⟩) n n,.slice (some ⟨q,0,none⟩) n n] 26) r1;have m2:=a_8 (Obj.cells #[.slice (some ⟨p,0,none⟩) n n,.slice (some ⟨q,0,none⟩) n n] 26) r2;have m3:(w3.alloc (Obj.cells #[.slice (some ⟨p,0,none⟩) n n,.slice (some ⟨q,0,none⟩) n n] 26)).cell? ⟨w3.heap.size,0,none⟩=some (.slice (some ⟨p,0,none⟩) n n):=by simp
  have m4:(w3.alloc (Obj.cells #[.slice (some ⟨p,0,none⟩) n n,.slice (some ⟨q,0,none⟩) n n] 26)).cell? ⟨w3.heap.size,1,none⟩=some (.slice (some ⟨q,0,none⟩) n n):=by simp
  have ⟨M0,M1,M2,M3,M4⟩:=hh5 m0 m1 m2 m3 m4;have MF0:=Lib.hid ((o_k (Obj.cells #[.slice (some ⟨p,0,none⟩) n n,.slice (some ⟨q,0,none⟩) n n] 26) r0).trans r3);have MF1:=Lib.hid ((o_k (Obj.cells #[.slice (some ⟨p,0,none⟩) n n,.slice (some ⟨q,0,none⟩) n n] 26) r1).trans r4);have MR:=Lib.hid (m_f (Obj.cells #[.slice (some ⟨p,0,none⟩) n n,.slice (some ⟨q,0,none⟩) n n] 26) Rt);have MP:=Lib.hid ((b_r w3 (Obj.cells #[.slice (some ⟨p,0,none⟩) n n,.slice (some ⟨q,0,none⟩) n n] 26) p hp3).trans Hp.out);have MQ:=Lib.hid ((b_r w3 (Obj.cells #[.slice (some ⟨p,0,none⟩) n n,.slice (some ⟨q,0,none⟩) n n] 26) q hq3).trans Hq.out);have hb4:Below w.heap.size w (w3.alloc (Obj.cells #[.slice (some ⟨p,0,none⟩) n n,.slice (some ⟨q,0,none⟩) n n] 26)):=hb3.alloc hb3.size _;have hqw:w.heap.size+1 < q:=by have:=hb'.size;omega
  have hpw:w.heap.size+1 < p:=by have:=hb'.size;omega
  have hb2w:b2 < w.heap.size:=b_d (R2 0 (by rw [Hn'.out];omega));clear m0 m1 m2 m3 m4 r0 r1 r2 r3 r4 Rt hb'' hb3 hb' hb2 hb hb1 hs0 hs1 hs2
  go_wp2_with fail
  obtain ⟨W,hW⟩:=nm (w3.alloc (Obj.cells #[.slice (some ⟨p,0,none⟩) n n,.slice (some ⟨q,0,none⟩) n n] 26));have hWs:W.heap.size=w3.heap.size+1:=by rw [hW];simp
  rw [←hW] at M0 M1 M2 M3 M4 MF0 MF1 MR MP MQ hb4 ⊢;clear hW
  go_loopw [12] (fun s wr=>∃ j:Nat,j≤k∧s=.int .i64 ((i+j:Nat):Int)∧Hid (k_q ws ts i tag p q W j wr)) (fun s _=>i+k - (intOf s).toNat)
  case atStart=>exact ⟨0,by omega,rfl,rfl,Only.refl _ _,MP.out,MQ.out⟩
  case round =>
   obtain ⟨j,hj,rfl,hr⟩:=hrel;have ho:=hr.out.2.1;have n2:=ho.cell (by simp;omega) M2.out;have n3:=ho.cell (by simp;omega) M3.out;have n4:=ho.cell (by simp;omega) M4.out;have n0:=ho.cell (by simp;omega) M0.out;have n1:=ho.cell (by simp;omega) M1.out;have nf0:=(ho.frozen (by simp;omega) M0.out).trans MF0.out;have nf1:=(ho.frozen (by simp;omega) M1.out).trans MF1.out;have hsz:=ho.size;have hbw:=ho.to_below hb4 (by omega);clear ho
   by_cases hlt:j < k
   ·have hij:i+j < n:=by omega
    have g1:=hr.out.2.1.cell (by simp;omega) (MR.out (i+j) (by rw [Hn'.out];exact hij));have HT1:=HT.out (i+j) (by rw [Hn'.out];exact hij);have HGO:=Lib.hid (fun w' hb=>u_j (w':=w') hr.out hpq hb);have HST:=Lib.hid (j_N (k:=k) Hm.out (by rw [Hn.out];exact HI'.out) HG.out hlt hr.out.1);have nq:=l_S (k:=i+j) hr.out.2.2.2 (by rw [d_m,Hn'.out];exact hij);have nfq:=b_F (k:=i+j) hr.out.2.2.2
    generalize ts.getD (i+j) 0=tv at g1 HT1 HGO HST
    generalize (k_o ts i tag j).getD (i+j) 0=ov at nq
    obtain ⟨T0,T2⟩:=HT1
    go_wp2_with fail
    refine (p_q tag tv _ _ (by first | exact .inl ⟨HF.out,rfl⟩ | exact .inr ⟨HF.out,rfl⟩) T0 T2).mono ?_;rintro e w5 ⟨rfl,hb5⟩;have n0':=a_t hb5 n0;have n1':=a_t hb5 n1;have n4':=a_t hb5 n4;have n3':=a_t hb5 n3;have nq':=a_t hb5 nq;have nf0':=(hb5.frozen (b_d n0)).trans nf0;have nf1':=(hb5.frozen (b_d n1)).trans nf1;have nfq':=(hb5.frozen (b_d nq)).trans nfq;have hsz5:=hb5.size;have hbw5:=a_a hbw hb5;have HB5:=Lib.hid hb5;clear n0 n1 n2 n3 n4 nf0 nf1 nq nfq g1 hb5
    by_cases hz:j_g tag tv=0
    ·have HZ:=Lib.hid hz;have HR:=Lib.hid (HGO.out _ HB5.out hz);rw [hz];clear hz
     go_wp2
     go_roundw
     case rel=>exact ⟨j+1,by omega,by go_num,HR.out⟩
     case measure=>simp [intOf];omega
    ·have HZ:=Lib.hid hz;have hz':(j_g tag tv != 0)=true:=by simpa using hz
     obtain ⟨x1,x2,x3⟩:=HST.out hz;obtain ⟨ev,hev⟩:=mn (j_g tag tv);have HX:=Lib.hid hev;rw [hev] at x1;have ⟨X1,X2,X3⟩:=hh3 x1 x2 x3;rw [hev] at hz' ⊢;clear hz hev x1 x2 x3
     go_wp2
     refine a_m ⟨w.heap.size+1,0,none⟩ rfl rfl rfl (c_E _ _ _ _ (by go_cell_look) (by go_cell_look)) ?_;rw [X1.out,X2.out,X3.out];exact e_i (by go_grown)
   ·obtain rfl:j=k:=by omega
    have HDN:=Lib.hid (j_M Hm.out (by rw [Hn.out];exact HI'.out) HG.out hr.out.1);have hP:=Lib.hid hr.out.2.2.1;have hQ:=Lib.hid hr.out.2.2.2
    go_wp2
    refine a_m ⟨w.heap.size+1,0,none⟩ rfl rfl rfl (c_E _ _ _ _ (by go_cell_look) (by go_cell_look)) ?_;rw [HDN.out.1,HDN.out.2.1,HDN.out.2.2];refine h_j (t:=3) (t':=3) (fr:=(0,0)) (fr':=(0,0)) Hn.out (by rw [d_m,Hn'.out]) (by omega) (by omega) ?_ ?_ (by go_grown)
    ·rw [Below.heap_setCell _ _ _ _ (by simp;omega),Below.heap_setCell _ _ _ _ (by simp;omega)];exact hP.out
    ·rw [Below.heap_setCell _ _ _ _ (by simp;omega),Below.heap_setCell _ _ _ _ (by simp;omega)];exact hQ.out
theorem p_8 (a a':Option Addr) (n c n' c':Nat) (ws ts:List Int) (i k tag:Int) (w:World) (S1:Sl w a n ws) (S2:Sl w a' n' ts) (hi:(Lit.int .i64 i).wf=true) :
  Calls Tryz.prog 153 #[.agg #[.slice a n c,.slice a' n' c'],.int .i64 i,.int .i64 k,.int .i64 tag] w (j_l (c_5 ws ts i k tag) (c_O ws ts i k tag) (c_F ws ts i k tag) w):=by
 have hb0:=N80;have HB:=Lib.hid hb0;clear hb0 hi
 by_cases hm:d_g ws ts=true
 ·by_cases ht:tag=1∨tag=2
  ·obtain ⟨z0,z1,z2⟩:=c_v hm;have hn:=S1.1;have hn':=S2.1;obtain rfl:n'=n:=by omega
   obtain ⟨-,b1,o1,rfl,R1⟩:=c_Y S1 (by omega);obtain ⟨-,b2,o2,rfl,R2⟩:=c_Y S2 (by omega)
   by_cases hw:b_7 n' i k=true
   ·simp only [b_7,decide_eq_true_eq] at hw;obtain ⟨i,rfl⟩:=Int.eq_ofNat_of_zero_le hw.2.1;obtain ⟨k,rfl⟩:=N250;exact n_H b1 o1 b2 o2 n' c c' ws ts i k tag (if tag=1 then 164 else 126) (by rcases ht with rfl | rfl <;> simp) w S1 S2 hn hn' R1 R2 hm (by omega) (by omega) (by omega)
   ·have z4:n'≤160:=by omega
    have e:c_F ws ts i k tag=3:=by rw [c_F,if_pos ⟨hm,ht⟩,if_neg (by rw [hn];exact hw)]
    have E:=N42;rw [E.out.1,E.out.2.1,E.out.2.2];have Hm:=Lib.hid hm;have Hw:=Lib.hid (by simpa using hw:b_7 n' i k=false)
    have b0:((tag != 1)=false)∨((tag != 1)=true∧(tag != 2)=false):=by
     rcases ht with rfl | rfl <;> simp
    clear e hm hw ht z0 z1 z2 hn hn'
    rcases b0 with h1 | ⟨h1,h2⟩
    all_goals
     go_enter Tryz.func153,Tryz.ntmps153
     go_wp2_with fail
     refine (c_m _ _ n' c n' c' ws ts _ (slA _ (slA _ S1)) (slA _ (slA _ S2))).mono ?_;rintro e w1 ⟨rfl,hb⟩;have hb1:=N6;obtain ⟨hc,hf⟩:=g_I hb;have hs1:=N83;have hs0:w.heap.size < w1.heap.size:=by omega
     have g3:=N189;have g4:=N190;rw [Hm.out]
     go_wp2_with fail
     refine (g_w _ _ n' c n' c' i k _ z4 HB.out.1 HB.out.2).mono ?_;rintro e w2 ⟨rfl,hb'⟩;have hb2:=N170;obtain ⟨hc',hf'⟩:=g_I hb';have k3:w2.cell? ⟨w.heap.size+1,0,none⟩=some (.slice none 0 0):=by rw [hc' _ _ (by omega)];exact g3
     have k4:w2.cell? ⟨w.heap.size+1,1,none⟩=some (.slice none 0 0):=by rw [hc' _ _ (by omega)];exact g4
     have hs2:=N186;rw [Hw.out];exact J59
  ·have e:c_F ws ts i k tag=1:=by rw [c_F,if_neg (fun h=>ht h.2)]
   have E:=N42;rw [E.out.1,E.out.2.1,E.out.2.2];have Hm:=Lib.hid hm;have h1:(tag != 1)=true:=by simp;omega
   have h2:(tag != 2)=true:=by simp;omega
   clear e hm ht;exact J40
 ·have e:c_F ws ts i k tag=1:=by rw [c_F,if_neg (fun h=>hm h.1)]
  have E:=N42;rw [E.out.1,E.out.2.1,E.out.2.2];have Hm:=Lib.hid (by simpa using hm:d_g ws ts=false);clear e hm;exact J40
attribute [local go_sem] f_f
attribute [local go_sem ↓] Go.wp_at_zero Go.wp_at_succ
def k_u (w:World) (g:Nat) (x y z:Value):Prop:=(w.cell? ⟨g,0,none⟩=some x∧w.cell? ⟨g,1,none⟩=some y∧w.cell? ⟨g,2,none⟩=some z)∧w.frozen? ⟨g,0,none⟩=false∧w.frozen? ⟨g,1,none⟩=false∧w.frozen? ⟨g,2,none⟩=false
theorem r_E {w:World} {x y z:Value} {t:TypeId} (g:Nat) (hg:g=w.heap.size):k_u (w.alloc (.cells #[x,y,z] t)) g x y z:=
 ⟨⟨a_Y _ _ _ hg rfl,a_Y _ _ _ hg rfl,a_Y _ _ _ hg rfl⟩,c_o _ _ hg,c_o _ _ hg,c_o _ _ hg⟩
theorem p_L {w w':World} {g:Nat} {x y z:Value} (hb:Below w.heap.size w w') (h:k_u w g x y z):k_u w' g x y z:=by
 obtain ⟨⟨a,b,c⟩,e,f,i⟩:=h;exact ⟨⟨a_t hb a,a_t hb b,a_t hb c⟩,c_a hb a e,c_a hb b f,c_a hb c i⟩
theorem u_l {w:World} {g:Nat} {x y z:Value} (o:Obj) (h:k_u w g x y z):k_u (w.alloc o) g x y z:=p_L ((Below.refl _ _).alloc (Nat.le_refl _) _) h
theorem t_t {w:World} {g:Nat} {x y z:Value} (h:k_u w g x y z):g < w.heap.size:=b_d h.1.1
theorem f_j {w:World} {g g' o:Nat} {x y z:Value} (h:k_u w g x y z) (hne:g'≠g) (v:Value):k_u (w.setCell ⟨g',o,none⟩ v) g x y z:=by
 obtain ⟨⟨a,b,c⟩,e,f,i⟩:=h;have ne:=N210;refine ⟨⟨?_,?_,?_⟩,?_,?_,?_⟩
 ·rw [World.cell?_setCell_other _ _ _ _ (ne _)];exact a
 ·rw [World.cell?_setCell_other _ _ _ _ (ne _)];exact b
 ·rw [World.cell?_setCell_other _ _ _ _ (ne _)];exact c
 all_goals (rw [World.frozen?_setCell];assumption)
theorem r_F {w:World} {g:Nat} {x y z:Value} (h:k_u w g x y z) (x' y' z':Value):k_u (((w.setCell ⟨g,0,none⟩ x').setCell ⟨g,1,none⟩ y').setCell ⟨g,2,none⟩ z') g x' y' z':=by
 obtain ⟨⟨a,b,c⟩,e,f,i⟩:=h;have ne:=N195;refine ⟨⟨?_,?_,?_⟩,?_,?_,?_⟩
 ·rw [World.cell?_setCell_other _ _ _ _ (ne _ _ (by decide)),World.cell?_setCell_other _ _ _ _ (ne _ _ (by decide))];exact World.cell?_setCell_same' _ _ _ (by rw [a];rfl)
 ·rw [World.cell?_setCell_other _ _ _ _ (ne _ _ (by decide))];exact World.cell?_setCell_same' _ _ _ (by rw [World.cell?_setCell_other _ _ _ _ (ne _ _ (by decide)),b];rfl)
 ·exact World.cell?_setCell_same' _ _ _ (by rw [World.cell?_setCell_other _ _ _ _ (ne _ _ (by decide)),World.cell?_setCell_other _ _ _ _ (ne _ _ (by decide)),c];rfl)
 all_goals (simp only [World.frozen?_setCell];assumption)
theorem m_F {F g:Nat} {w w':World} (h:Below F w w') (hg:F≤g) (x y z:Value):Below F w (((w'.setCell ⟨g,0,none⟩ x).setCell ⟨g,1,none⟩ y).setCell ⟨g,2,none⟩ z):=
 ((h.setCell (p:=⟨g,0,none⟩) hg x).setCell (p:=⟨g,1,none⟩) hg y).setCell (p:=⟨g,2,none⟩) hg z
theorem p_M {w:World} {g g':Nat} {x y z a b c d:Value} (h:k_u w g x y z) (hne:g'≠g):k_u ((((w.setCell ⟨g',0,none⟩ a).setCell ⟨g',1,none⟩ b).setCell ⟨g',2,none⟩ c).setCell ⟨g',3,none⟩ d) g x y z:=
 f_j (f_j (f_j (f_j h hne _) hne _) hne _) hne _
theorem n_s {w:World} {g g':Nat} {x y z u a b c:Value} (h:e_d w g x y z u) (hne:g'≠g):e_d (((w.setCell ⟨g',0,none⟩ a).setCell ⟨g',1,none⟩ b).setCell ⟨g',2,none⟩ c) g x y z u:=by
 obtain ⟨⟨a,b,c,d⟩,e,f,i,j⟩:=h;have ne:∀ k m,(⟨g',m,none⟩:Addr)≠⟨g,k,none⟩:=fun k m e=>hne (congrArg Addr.block e)
 refine ⟨⟨?_,?_,?_,?_⟩,?_,?_,?_,?_⟩
 ·rw [World.cell?_setCell_other _ _ _ _ (ne _ _),World.cell?_setCell_other _ _ _ _ (ne _ _),World.cell?_setCell_other _ _ _ _ (ne _ _)];exact a
 ·rw [World.cell?_setCell_other _ _ _ _ (ne _ _),World.cell?_setCell_other _ _ _ _ (ne _ _),World.cell?_setCell_other _ _ _ _ (ne _ _)];exact b
 ·rw [World.cell?_setCell_other _ _ _ _ (ne _ _),World.cell?_setCell_other _ _ _ _ (ne _ _),World.cell?_setCell_other _ _ _ _ (ne _ _)];exact c
 ·rw [World.cell?_setCell_other _ _ _ _ (ne _ _),World.cell?_setCell_other _ _ _ _ (ne _ _),World.cell?_setCell_other _ _ _ _ (ne _ _)];exact d
 all_goals (simp only [World.frozen?_setCell];assumption)
inductive LockInv (x y z u:Value) (a0:Act) (w0:World) (listed:Array Bool) (act':Act) (w':World):Prop
 | mk (p20 p21 p22 p15 p16:Value) (gx:Nat) (go:Nat) (x0:Value) (x1:Value) (x2:Value) (x3:Value) (y0:Value) (y1:Value) (y2:Value) (ea:act'=(((((a0.put (some 20) p20).put (some 21) p21).put (some 22) p22).put (some 15) p15).put (some 16) p16)) (hb:Below w0.heap.size w0 w') (hf0:Up listed 0→p20=.agg #[x,y,z,u]) (hf1:Up listed 1→p21=.agg #[x,y,z,u]) (hf2:Up listed 2→p22=.agg #[.func (.func 169) #[] #[],.func (.func 170) #[] #[],.func (.func 171) #[] #[]]) (hX:Up listed 3→p15=.pointer (some ⟨gx,0,none⟩)∧w0.heap.size≤gx∧e_d w' gx x0 x1 x2 x3) (hO:Up listed 4→p16=.pointer (some ⟨go,0,none⟩)∧w0.heap.size≤go∧k_u w' go y0 y1 y2∧(Up listed 3→gx≠go)) (hSX:Up listed 5→Up listed 3∧x0=x∧x1=y∧x2=z∧x3=u) (hSO:Up listed 6→Up listed 4∧y0=(.func (.func 169) #[] #[])∧y1=(.func (.func 170) #[] #[])∧y2=(.func (.func 171) #[] #[])):LockInv x y z u a0 w0 listed act' w'
def n_G (W:World) (x y z u:Value) (s15 s16:Value) (wx:World):Prop:=
 ∃ gx go,s15=.pointer (some ⟨gx,0,none⟩)∧s16=.pointer (some ⟨go,0,none⟩)∧e_d wx gx x y z u∧k_u wx go (.func (.func 169) #[] #[]) (.func (.func 170) #[] #[]) (.func (.func 171) #[] #[])∧W.heap.size≤gx∧W.heap.size≤go∧Below W.heap.size W wx
theorem c_j {Q:Nat→Prop} {w:World} {a:Option Addr} {n:Nat} {zs:List Int} (h:SlP Q w a n zs):SlP (fun b=>Q b∧b < w.heap.size) w a n zs:=by
 obtain ⟨h1,h2⟩:=h
 by_cases h0:n=0
 ·exact ⟨h1,.inl h0⟩
 ·obtain ⟨b,o,e,hq,r⟩:=h2.resolve_left h0;exact ⟨h1,.inr ⟨b,o,e,⟨hq,b_d (r 0 (by omega))⟩,r⟩⟩
theorem s_8 {Q:Nat→Prop} {w:World} {a:Option Addr} {n:Nat} {zs:List (Int×Int)} (h:PlQ Q w a n zs):PlQ (fun b=>Q b∧b < w.heap.size) w a n zs:=by
 obtain ⟨h1,h2⟩:=h
 by_cases h0:n=0
 ·exact ⟨h1,.inl h0⟩
 ·obtain ⟨b,o,e,hq,r⟩:=h2.resolve_left h0;exact ⟨h1,.inr ⟨b,o,e,⟨hq,b_d (r 0 (by omega)).1⟩,r⟩⟩
theorem f_x {Q:Nat→Prop} {w:World} {a:Option Addr} {n:Nat} {bs:List (List (Int×Int))} (h:BlP Q w a n bs):BlP (fun b=>Q b∧b < w.heap.size) w a n bs:=by
 obtain ⟨h1,h2⟩:=h
 by_cases h0:n=0
 ·exact ⟨h1,.inl h0⟩
 ·obtain ⟨b,o,e,hq,r⟩:=h2.resolve_left h0;refine ⟨h1,.inr ⟨b,o,e,⟨hq,?_⟩,fun i hi=>?_⟩⟩
  ·obtain ⟨q,c,k,_⟩:=r 0 (by omega);exact b_d k
  ·obtain ⟨q,c,k,k2,k3⟩:=r i hi;exact ⟨q,c,k,k2,s_8 k3⟩
theorem u_2 {Q:Nat→Prop} {w:World} {a:Option Addr} {n:Nat} {bs:List (List (Int×Int))} (o:Obj) (h:BlP Q w a n bs):BlP Q (w.alloc o) a n bs:=a_G (fun _ _ _ _ hv=>a_8 o hv) h
theorem e_P {w:World} {g b o:Nat} {v x y z u:Value} (h:w.cell? ⟨b,o,none⟩=some v) (hne:b≠g):((((w.setCell ⟨g,0,none⟩ x).setCell ⟨g,1,none⟩ y).setCell ⟨g,2,none⟩ z).setCell ⟨g,3,none⟩ u).cell? ⟨b,o,none⟩=some v:=by
 have ne:=N202;rw [World.cell?_setCell_other _ _ _ _ (ne _),World.cell?_setCell_other _ _ _ _ (ne _),World.cell?_setCell_other _ _ _ _ (ne _),World.cell?_setCell_other _ _ _ _ (ne _)];exact h
theorem g_V {F v:Nat} {U:Prop} (hu:U) {w:World} {a:Option Addr} {n:Nat} {zs:List Int} {x y z u:Value} (h:SlP (fun b=>F≤b∧(U→b≠v)) w a n zs):SlP (fun b=>F≤b∧(U→b≠v)) ((((w.setCell ⟨v,0,none⟩ x).setCell ⟨v,1,none⟩ y).setCell ⟨v,2,none⟩ z).setCell ⟨v,3,none⟩ u) a n zs:=
 a_r (fun _ _ _ hq hv=>e_P hv (hq.2 hu)) h
theorem q_p {F v:Nat} {U:Prop} (hu:U) {w:World} {a:Option Addr} {n:Nat} {bs:List (List (Int×Int))} {x y z u:Value} (h:BlP (fun b=>F≤b∧(U→b≠v)) w a n bs):BlP (fun b=>F≤b∧(U→b≠v)) ((((w.setCell ⟨v,0,none⟩ x).setCell ⟨v,1,none⟩ y).setCell ⟨v,2,none⟩ z).setCell ⟨v,3,none⟩ u) a n bs:=
 a_G (fun _ _ _ hq hv=>e_P hv (hq.2 hu)) h
inductive LockInv9 (a a' q:Option Addr) (n c n' c' l d:Nat) (ws ts us:List Int) (D:Int) (bs:List (List (Int×Int))) (j go F:Nat) (x y z lv nv:Int) (a0:Act) (w0:World) (listed:Array Bool) (act':Act) (w':World):Prop
 | mk (p58 p59 p60 p61 p62 p63 p64 p65 p66 p67 p68 p69 p70 p57 p71 p72 p19 p18:Value) (p:Option Addr) (m:Nat) (e1:Nat) (p':Option Addr) (m':Nat) (e2:Nat) (g:Nat) (l2:Nat) (p3:Option Addr) (m3:Nat) (e3:Nat) (p4:Option Addr) (m4:Nat) (e4:Nat) (v:Nat) (x0:Value) (x1:Value) (x2:Value) (x3:Value) (ea:act'=((((((((((((((((((a0.put (some 58) p58).put (some 59) p59).put (some 60) p60).put (some 61) p61).put (some 62) p62).put (some 63) p63).put (some 64) p64).put (some 65) p65).put (some 66) p66).put (some 67) p67).put (some 68) p68).put (some 69) p69).put (some 70) p70).put (some 57) p57).put (some 71) p71).put (some 72) p72).put (some 19) p19).put (some 18) p18)) (hb:Below w0.heap.size w0 w') (hf0:Up listed 0→p58=.agg #[.slice a n c,.slice a' n' c',.int .i64 D,.slice q l d]) (hC:Up listed 1→p59=.agg #[.slice p m e1,.slice p' m' e2,.int .i64 D,.slice (some ⟨g,0,none⟩) l2 l2]∧SlP (fun b=>w0.heap.size≤b∧(Up listed 16→b≠v)) w' p m ws∧SlP (fun b=>w0.heap.size≤b∧(Up listed 16→b≠v)) w' p' m' ts∧BlP (fun b=>w0.heap.size≤b∧(Up listed 16→b≠v)) w' (some ⟨g,0,none⟩) l2 bs) (hf2:Up listed 2→p60=.int .i64 x) (hf3:Up listed 3→p61=.int .i64 (j:Int)) (hf4:Up listed 4→p62=.pointer (some ⟨go,j,none⟩)) (hf5:Up listed 5→p63=.pointer (some ⟨go,j,none⟩)) (hf6:Up listed 6→p64=.func (.func F) #[] #[]) (hf7:Up listed 7→p65=.int .i64 lv) (hf8:Up listed 8→p66=.int .i64 y) (hf9:Up listed 9→p67=.int .i64 z) (hf10:Up listed 10→p68=.int .i64 nv) (hf11:Up listed 11→p69=.agg #[.int .i64 x,.int .i64 nv]) (hS:Up listed 12→Up listed 1∧p70=.tuple #[.agg #[.slice p3 m3 e3,.slice p4 m4 e4,.int .i64 D,.slice (some ⟨g,0,none⟩) l2 l2],.int .i64 0]∧SlP (fun b=>w0.heap.size≤b∧(Up listed 16→b≠v)) w' p3 m3 us∧SlP (fun b=>w0.heap.size≤b∧(Up listed 16→b≠v)) w' p4 m4 ts) (hf13:Up listed 13→p57=.tuple #[.agg #[.slice p3 m3 e3,.slice p4 m4 e4,.int .i64 D,.slice (some ⟨g,0,none⟩) l2 l2],.int .i64 0]) (hW13:Up listed 13→Up listed 12∧Up listed 1) (hf14:Up listed 14→p71=.agg #[.slice p3 m3 e3,.slice p4 m4 e4,.int .i64 D,.slice (some ⟨g,0,none⟩) l2 l2]) (hW14:Up listed 14→Up listed 12∧Up listed 1) (hf15:Up listed 15→p72=.int .i64 0) (hA:Up listed 16→p19=.pointer (some ⟨v,0,none⟩)∧w0.heap.size≤v∧e_d w' v x0 x1 x2 x3) (hT:Up listed 17→Up listed 16∧Up listed 12∧x0=.slice p3 m3 e3∧x1=.slice p4 m4 e4∧x2=.int .i64 D∧x3=.slice (some ⟨g,0,none⟩) l2 l2) (hf18:Up listed 18→p18=.int .i64 0):LockInv9 a a' q n c n' c' l d ws ts us D bs j go F x y z lv nv a0 w0 listed act' w'
def l_C (W:World) (us ts:List Int) (D:Int) (bs:List (List (Int×Int))) (s18 s19:Value) (wx:World):Prop:=
 ∃ v a n c a' n' c' q l d,s19=.pointer (some ⟨v,0,none⟩)∧s18=.int .i64 0∧W.heap.size≤v∧e_d wx v (.slice a n c) (.slice a' n' c') (.int .i64 D) (.slice q l d)∧SlP (fun b=>W.heap.size≤b) wx a n us∧SlP (fun b=>W.heap.size≤b) wx a' n' ts∧BlP (fun b=>W.heap.size≤b) wx q l bs∧Below W.heap.size W wx
end Go.Proofs.YtogdpojnbgeknaaGreatDoor
