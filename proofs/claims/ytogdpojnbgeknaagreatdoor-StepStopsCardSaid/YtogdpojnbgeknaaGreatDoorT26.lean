import Derived.Test.YtogdpojnbgeknaaGreatDoorT22
import Derived.Test.YtogdpojnbgeknaaGreatDoorT23
import Derived.Test.YtogdpojnbgeknaaGreatDoorT7
import Derived.Test.YtogdpojnbgeknaaGreatDoorT25
import Derived.Test.YtogdpojnbgeknaaGreatDoorT0
import Derived.Test.YtogdpojnbgeknaaGreatDoorT17
import Derived.Test.YtogdpojnbgeknaaGreatDoorT21
import Derived.Test.YtogdpojnbgeknaaGreatDoorT9
set_option maxRecDepth 100000
set_option maxHeartbeats 16000000
namespace Go.Proofs.YtogdpojnbgeknaaGreatDoor
open Go.ChangeShapes Go.WideShapes Go.ChangeAt Go.RowKit
open Gen
open Lib (hid)
def j_0 (X:Wo) (k:Int):Int:=if b_i X=true then (if l_H X k=true then 0 else 3) else 1
def s_d (L:WoL) (D k:Int) (E:Int):List Value:=if E=0 then wkC L D k else woK
def n_t (L:WoL) (D k E:Int) (w:World) (e:Ending) (w':World):Prop:=e=.returned (.tuple #[.agg (s_d L D k E).toArray,.int .i64 E])∧Below w.heap.size w w'
theorem i_8 (L:WoL) (X:Wo) (k:Int) (w:World) (R:RWo Any w L X) (G:Glob w) :
  Calls Tryz.prog 38 #[woV L X.D,.int .i64 k] w (n_t L X.D k (j_0 X k) w):=by
 obtain ⟨D,hD⟩:=mn (X.D);have HD:=hid hD;rw [hD];obtain ⟨W,hW⟩:=nm ((w.alloc (Obj.cells (woC L D).toArray 33)).alloc (Obj.cells woK.toArray 80));have HX:=N52;have HZ:=N235;have HB:=N3;have HC0:=i_M L X W (c_J (b_G HB.out R)) (G.B HB.out);rw [hD] at HC0;have ⟨HC,HW⟩:=hh2 HC0 hW;have HTN:=N187;obtain ⟨E,hE⟩:=mn (j_0 X k);rw [hE];have HE:=hid hE;clear hW hD HC0 R G hE;unfold woV
 go_enter Tryz.func38,Tryz.ntmps38
 go_upto_region 1 with fail
 rw [←HW.out]
 go_wp2_with (refine wpList_load_mid rfl 33 _ rfl w.heap.size 0 rfl (woC L D) _ (a_f HX.out) Tryz.underlying33 rfl (by kernel_rfl) ?_)
 refine HC.out.mono ?_;clear HC;rintro e1 w1 ⟨rfl,hb1⟩;have HX1:=hid (a_i hb1 HX.out);have HZ1:=hid (a_i hb1 HZ.out);have HB1:=hid (a_b HB.out hb1);clear hb1
 cases hr:b_i X with
 | false =>
  have HEV:=hid (show E=1 by rw [←HE.out,j_0,hr];rfl);clear hr;exact J30
 | true =>
  have HR:=hid hr;clear hr
  by_cases h0:0≤k
  ·by_cases h1:k < L.th.n
   ·have HEV:=hid (show E=0 by rw [←HE.out,j_0,if_pos HR.out,l_H,HTN.out,decide_eq_true ⟨h0,h1⟩];rfl);obtain ⟨x5,-⟩:=HX1.out 5 _ rfl;have h2:¬ k < 0:=by omega
    have h3:¬ (L.th.n:Int)≤k:=by omega
    go_wp2_with (first | (refine wpList_load_mid rfl 33 _ rfl w.heap.size 0 rfl (woC L D) _ (a_f HX1.out) Tryz.underlying33 rfl (by kernel_rfl) ?_) | (refine a_c rfl 80 _ _ rfl (w.heap.size+1) (wkC L D k).toArray rfl rfl _ HZ1.out rfl (by kernel_rfl) (by simp [Value.oneCell']) ?_;intro U HU))
    refine a_l ⟨w.heap.size+1,0,none⟩ rfl rfl rfl (a_E (show a_p U (w.heap.size+1) (wkC L D k) by rw [HU.out];exact a_q HZ1.out rfl) 80 Tryz.underlying80 rfl (by kernel_rfl)) ?_;exact ⟨by rw [HEV.out];rfl,by rw [HU.out];exact a_h (by omega) HB1.out⟩
   ·have HEV:=hid (show E=3 by rw [←HE.out,j_0,if_pos HR.out,l_H,HTN.out,decide_eq_false (fun h=>h1 h.2)];rfl);obtain ⟨x5,-⟩:=HX1.out 5 _ rfl;have h2:¬ k < 0:=by omega
    have h3:(L.th.n:Int)≤k:=by omega
    exact J30
  ·have HEV:=hid (show E=3 by rw [←HE.out,j_0,if_pos HR.out,l_H,decide_eq_false (fun h=>h0 h.1)];rfl);have h2:k < 0:=by omega
   exact J30
theorem i_7 {X:Wo} {k:Int} (h:j_0 X k=0):b_i X=true∧0≤k∧k < X.th.length:=by
 unfold j_0 at h
 split at h
 ·rename_i h1
  split at h
  ·rename_i h2
   simp only [l_H,decide_eq_true_eq] at h2;exact ⟨h1,h2⟩
  ·omega
 ·omega
theorem t_5 {w:World} {g:Nat} {L:WoL} {X:Wo} {k:Nat} (hx:a_p w g (wkC L X.D k)) (R:RWo Any w L X) (hk:k < X.th.length):∃ b o,Wr w g b o L X k:=by
 obtain ⟨b,o,_,_,_,_,_,e,-⟩:=d_b R.th (k:=k) (by have:=R.th.1;omega);exact ⟨b,o,hx,e,R.th,R.co,R.ws,R.ts,R.bs,hk,R.th.1⟩
def r_0 (b:Bool) (E:Int) (w:World) (e:Ending) (w':World):Prop:=e=.returned (.tuple #[.bool b,.int .i64 E])∧Below w.heap.size w w'
theorem k_5 (L:WoL) (X:Wo) (k:Int) (w:World) (R:RWo Any w L X) (G:Glob w) (hwf:∀ j i,i < 8→(Lit.int .i64 ((thW X j).r i)).wf=true) :
  Calls Tryz.prog 16 #[woV L X.D,.int .i64 k] w (r_0 (if j_0 X k=0 then h_z X k.toNat else false) (j_0 X k) w):=by
 obtain ⟨D,hD⟩:=mn (X.D);have HD:=hid hD;rw [hD];obtain ⟨W,hW⟩:=nm (w.alloc (Obj.cells (woC L D).toArray 33));have HX:=N159;have HB:=N3;have HC0:=i_8 L X k W (c_J (b_G HB.out R)) (G.B HB.out);rw [hD] at HC0;have ⟨HC,HW,HR,HWF⟩:=hh4 HC0 hW R hwf;obtain ⟨E,hE⟩:=mn (j_0 X k);rw [hE] at HC ⊢;have HE:=hid hE;obtain ⟨y,hy⟩:=mn ((if E=0 then h_z X k.toNat else false));rw [hy];have HY:=hid hy;clear hW hD HC0 R G hE hwf hy;unfold woV
 go_enter Tryz.func16,Tryz.ntmps16
 go_upto_region 1 with fail
 rw [←HW.out]
 go_wp2_with (refine wpList_load_mid rfl 33 _ rfl w.heap.size 0 rfl (woC L D) _ (a_f HX.out) Tryz.underlying33 rfl (by kernel_rfl) ?_)
 refine HC.out.mono ?_;clear HC;rintro e1 w1 ⟨rfl,hb1⟩;have HB1:=hid (a_b HB.out hb1);clear hb1;obtain ⟨cs,hcs⟩:=mn (s_d L D k E);rw [hcs];have HL8:=N162;have HCS:=hid hcs;clear hcs
 go_upto_region 2 with (refine a_c rfl 80 _ _ rfl w1.heap.size cs.toArray rfl rfl _ (a_e woK w1.heap.size rfl) (by rw [List.size_toArray,HL8.out.1];rfl) (by rw [List.size_toArray,HL8.out.1];kernel_rfl) HL8.out.2 ?_;intro U HU)
 have HXU:=N178;have HBU:=N73;clear HU
 by_cases h0:E=0
 ·obtain ⟨hr,hk0,hk1⟩:=i_7 (HE.out.trans h0);obtain ⟨j,hj⟩:∃ j:Nat,k=j:=⟨k.toNat,by omega⟩;subst hj;have hcw:cs=wkC L D j:=by rw [←HCS.out,s_d,if_pos h0]
  have HYV:=hid (show h_z X j=y by rw [←HY.out,if_pos h0,Int.toNat_natCast]);obtain ⟨b,o,H⟩:=t_5 (w:=U) (g:=w1.heap.size) (L:=L) (X:=X) (k:=j) (by rw [HD.out,←hcw];exact HXU.out) (c_J (b_G HBU.out HR.out)) (by omega);have HC0:=l_A w1.heap.size b o L X j U H hr (fun i hi=>HWF.out j i hi);rw [HYV.out] at HC0;have HC:=hid HC0;clear HC0 H hcw hr hk0 hk1;subst h0
  go_wp2_with fail
  refine HC.out.mono ?_;clear HC;rintro e2 w2 ⟨rfl,hb2⟩;have HB2:=hid (a_b HBU.out hb2);clear hb2
  go_wp2_with fail
  go_ret2
  exact ⟨rfl,HB2.out⟩
 ·have hb:(E != 0)=true:=by simpa using h0
  have HYV:=hid (show false=y by rw [←HY.out,if_neg h0]);clear h0
  go_wp2_with fail
  go_ret2
  have h:=HYV.out;subst h;exact ⟨rfl,HBU.out⟩
abbrev h_V (e:Int):Value:=.iface 133 (.agg #[.int .i64 e])
abbrev l_E (e:Int):List PanicEntry:=[{ v:=h_V e,recovered:=false }]
def g_E (v:Value) (x:Int) (w:World) (e:Ending) (w':World):Prop:=((x=0∧e=.returned v)∨(x≠0∧e=.panicked (l_E x)))∧Below w.heap.size w w'
theorem o_I (v x:Int) (w:World):Calls Tryz.prog 119 #[.int .i64 v,.int .i64 x] w (g_E (.int .i64 v) x w):=by
 by_cases h0:x=0
 ·subst h0
  go_enter Tryz.func119,Tryz.ntmps119
  go_wp2
  go_ret
  exact ⟨.inl ⟨rfl,rfl⟩,Below.refl _ _⟩
 ·have hb:=N200
  go_enter Tryz.func119,Tryz.ntmps119
  go_wp2
  exact And.intro rfl ⟨.inr ⟨h0,rfl⟩,Below.refl _ _⟩
theorem o_J (s1 s2:Sp) (x:Int) (w:World):Calls Tryz.prog 49 #[.agg #[.slice s1.a s1.n s1.c,.slice s2.a s2.n s2.c],.int .i64 x] w (g_E (.agg #[.slice s1.a s1.n s1.c,.slice s2.a s2.n s2.c]) x w):=by
 obtain ⟨W,hW⟩:=nm ((w.alloc (Obj.cells #[.slice s1.a s1.n s1.c,.slice s2.a s2.n s2.c] 26)).alloc (Obj.cells #[.slice none 0 0,.slice none 0 0] 26));have HX:=hid (show a_p W w.heap.size [.slice s1.a s1.n s1.c,.slice s2.a s2.n s2.c] by rw [hW];exact a_s _ (a_e [.slice s1.a s1.n s1.c,.slice s2.a s2.n s2.c] _ rfl));have HZ:=hid (show a_p W (w.heap.size+1) [.slice none 0 0,.slice none 0 0] by rw [hW];exact a_e [.slice none 0 0,.slice none 0 0] _ (by simp));have HB:=N3;have HW:=hid hW;clear hW
 by_cases h0:x=0
 ·subst h0
  go_enter Tryz.func49,Tryz.ntmps49
  go_upto_region 1 with fail
  rw [←HW.out]
  go_wp2_with (first | (refine wpList_load_mid rfl 26 _ rfl w.heap.size 0 rfl [.slice s1.a s1.n s1.c,.slice s2.a s2.n s2.c] _ (a_f HX.out) Tryz.underlying26 rfl (by kernel_rfl) ?_) | (refine a_c rfl 26 _ _ rfl (w.heap.size+1) #[.slice s1.a s1.n s1.c,.slice s2.a s2.n s2.c] rfl rfl _ HZ.out rfl (by kernel_rfl) (by simp [Value.oneCell']) ?_;intro U HU))
  refine a_V ⟨w.heap.size+1,0,none⟩ rfl rfl rfl (a_E (cs:=[.slice s1.a s1.n s1.c,.slice s2.a s2.n s2.c]) (by rw [HU.out];exact a_q HZ.out rfl) 26 Tryz.underlying26 rfl (by kernel_rfl)) ?_;exact ⟨.inl ⟨rfl,rfl⟩,by rw [HU.out];exact a_h (by omega) HB.out⟩
 ·have hb:=N200;have HX0:=hid h0;clear h0
  go_enter Tryz.func49,Tryz.ntmps49
  exact J79
theorem j_r (s1 s2 s3:Sp) (D:Int) (x:Int) (w:World):Calls Tryz.prog 121 #[.agg #[.slice s1.a s1.n s1.c,.slice s2.a s2.n s2.c,.int .i64 D,.slice s3.a s3.n s3.c],.int .i64 x] w (g_E (.agg #[.slice s1.a s1.n s1.c,.slice s2.a s2.n s2.c,.int .i64 D,.slice s3.a s3.n s3.c]) x w):=by
 obtain ⟨W,hW⟩:=nm ((w.alloc (Obj.cells #[.slice s1.a s1.n s1.c,.slice s2.a s2.n s2.c,.int .i64 D,.slice s3.a s3.n s3.c] 30)).alloc (Obj.cells #[.slice none 0 0,.slice none 0 0,.int .i64 0,.slice none 0 0] 30));have HX:=hid (show a_p W w.heap.size [.slice s1.a s1.n s1.c,.slice s2.a s2.n s2.c,.int .i64 D,.slice s3.a s3.n s3.c] by rw [hW];exact a_s _ (a_e [.slice s1.a s1.n s1.c,.slice s2.a s2.n s2.c,.int .i64 D,.slice s3.a s3.n s3.c] _ rfl));have HZ:=hid (show a_p W (w.heap.size+1) [.slice none 0 0,.slice none 0 0,.int .i64 0,.slice none 0 0] by rw [hW];exact a_e [.slice none 0 0,.slice none 0 0,.int .i64 0,.slice none 0 0] _ (by simp));have HB:=N3;have HW:=hid hW;clear hW
 by_cases h0:x=0
 ·subst h0
  go_enter Tryz.func121,Tryz.ntmps121
  go_upto_region 1 with fail
  rw [←HW.out]
  go_wp2_with (first | (refine wpList_load_mid rfl 30 _ rfl w.heap.size 0 rfl [.slice s1.a s1.n s1.c,.slice s2.a s2.n s2.c,.int .i64 D,.slice s3.a s3.n s3.c] _ (a_f HX.out) Tryz.underlying30 rfl (by kernel_rfl) ?_) | (refine a_c rfl 30 _ _ rfl (w.heap.size+1) #[.slice s1.a s1.n s1.c,.slice s2.a s2.n s2.c,.int .i64 D,.slice s3.a s3.n s3.c] rfl rfl _ HZ.out rfl (by kernel_rfl) (by simp [Value.oneCell']) ?_;intro U HU))
  refine a_V ⟨w.heap.size+1,0,none⟩ rfl rfl rfl (a_E (cs:=[.slice s1.a s1.n s1.c,.slice s2.a s2.n s2.c,.int .i64 D,.slice s3.a s3.n s3.c]) (by rw [HU.out];exact a_q HZ.out rfl) 30 Tryz.underlying30 rfl (by kernel_rfl)) ?_;exact ⟨.inl ⟨rfl,rfl⟩,by rw [HU.out];exact a_h (by omega) HB.out⟩
 ·have hb:=N200;have HX0:=hid h0;clear h0
  go_enter Tryz.func121,Tryz.ntmps121
  exact J79
theorem o_H (t:Thr) (fa la:Option Addr) (fn fc ln lc:Nat) (x:Int) (w:World):Calls Tryz.prog 92 #[.agg (thC t fa fn fc la ln lc).toArray,.int .i64 x] w (g_E (.agg (thC t fa fn fc la ln lc).toArray) x w):=by
 obtain ⟨W,hW⟩:=nm ((w.alloc (Obj.cells (thC t fa fn fc la ln lc).toArray 46)).alloc (Obj.cells thN.toArray 46));have HX:=hid (show a_p W w.heap.size (thC t fa fn fc la ln lc) by rw [hW];exact a_s _ (a_e (thC t fa fn fc la ln lc) _ rfl));have HZ:=hid (show a_p W (w.heap.size+1) thN by rw [hW];exact a_e thN _ (by simp));have HB:=N3;have HW:=hid hW;clear hW
 by_cases h0:x=0
 ·subst h0
  go_enter Tryz.func92,Tryz.ntmps92
  go_upto_region 1 with fail
  rw [←HW.out]
  go_wp2_with (first | (refine wpList_load_mid rfl 46 _ rfl w.heap.size 0 rfl (thC t fa fn fc la ln lc) _ (a_f HX.out) Tryz.underlying46 rfl (by kernel_rfl) ?_) | (refine a_c rfl 46 _ _ rfl (w.heap.size+1) (thC t fa fn fc la ln lc).toArray rfl rfl _ HZ.out rfl (by kernel_rfl) (by simp [Value.oneCell']) ?_;intro U HU))
  refine a_V ⟨w.heap.size+1,0,none⟩ rfl rfl rfl (a_E (cs:=(thC t fa fn fc la ln lc)) (by rw [HU.out];exact a_q HZ.out rfl) 46 Tryz.underlying46 rfl (by kernel_rfl)) ?_;exact ⟨.inl ⟨rfl,rfl⟩,by rw [HU.out];exact a_h (by omega) HB.out⟩
 ·have hb:=N200;have HX0:=hid h0;clear h0
  go_enter Tryz.func92,Tryz.ntmps92
  exact J79
end Go.Proofs.YtogdpojnbgeknaaGreatDoor
namespace Go.Proofs.YtogdpojnbgeknaaGreatDoor
open Go.ChangeShapes Go.WideShapes Go.ChangeAt Go.RowKit
structure Only (q:Nat) (w w':World):Prop where
 os:w'.os=w.os
 tape:w'.tape=w.tape
 output:w'.output=w.output
 size:w.heap.size≤w'.heap.size
 block:∀ k,k < w.heap.size→k≠q→w'.heap[k]?=w.heap[k]?
theorem Only.refl (q:Nat) (w:World):Only q w w:=⟨rfl,rfl,rfl,Nat.le_refl _,fun _ _ _=>rfl⟩
theorem Only.below {q:Nat} {w a b:World} (h:Only q w a) (h':Below a.heap.size a b):Only q w b:=
 ⟨h'.os.trans h.os,h'.tape.trans h.tape,h'.output.trans h.output,Nat.le_trans h.size h'.size,fun k hk hq=>by rw [h'.block k (by have:=h.size;omega),h.block k hk hq]⟩
theorem Only.set {q:Nat} {w a:World} (h:Only q w a) (p:Addr) (hp:p.block=q) (v:Value):Only q w (a.setCell p v):=
 ⟨h.os,h.tape,h.output,by simpa using h.size,fun k hk hq=>by rw [Below.heap_setCell _ _ _ _ (by omega),h.block k hk hq]⟩
theorem Only.cell {q:Nat} {w a:World} {p:Addr} {v:Value} (h:Only q w a) (hp:p.block≠q) (hc:w.cell? p=some v):a.cell? p=some v:=by
 rw [World.cell?_of_block (w:=w) (h.block _ (b_c hc) hp)];exact hc
theorem Only.to_below {q:Nat} {w0 w a:World} (h:Only q w a) (hb:Below w0.heap.size w0 w) (hq:w0.heap.size≤q):Below w0.heap.size w0 a:=
 hb.trans ⟨h.os,h.tape,h.output,h.size,fun k hk=>h.block k (by have:=hb.size;omega) (by omega)⟩
def j_2 (ws ts:List Int) (i:Nat) (tag:Int) (p q:Nat) (W:World) (j:Nat) (wr:World):Prop:=
 f_h (i_W tag) ts i j=0∧Only q W wr∧wr.heap[p]?=some (.cells (Ir ws) 3)∧wr.heap[q]?=some (.cells (Ir (j_1 ts i tag j)) 3)
theorem Only.frozen {q:Nat} {w a:World} {p:Addr} {v:Value} (h:Only q w a) (hp:p.block≠q) (hc:w.cell? p=some v):a.frozen? p=w.frozen? p:=
 World.frozen?_of_block (w:=w) (h.block _ (b_c hc) hp)
theorem n_6 {w:World} {a:Addr} {v:Value} (o:Obj) (h:w.cell? a=some v):(w.alloc o).frozen? a=w.frozen? a:=
 World.frozen?_of_block (w:=w) (b_q w o _ (b_c h))
theorem t_U {ws ts:List Int} {i:Nat} {tag:Int} {p q:Nat} {W wr w':World} {j:Nat} (h:j_2 ws ts i tag p q W j wr) (hpq:p≠q) (hb:Below wr.heap.size wr w') (he:i_W tag (ts.getD (i+j) 0)=0) :
  j_2 ws ts i tag p q W (j+1) (w'.setCell ⟨q,i+j,none⟩ (.int .i64 tag)):=by
 obtain ⟨h1,h2,h3,h4⟩:=h;refine ⟨by simp only [f_h];rw [if_pos h1,he],(h2.below hb).set _ rfl _,?_,?_⟩
 ·rw [Below.heap_setCell _ _ _ _ hpq,hb.block _ (f_5 h3)];exact h3
 ·exact p_j (by rw [hb.block _ (f_5 h4)];exact h4)
theorem j_q {ws ts:List Int} {i k j:Nat} {tag:Int} (hm:d_g ws ts=true) (hw:b_5 ws.length i k=true) (ht:tag=1∨tag=2) (hj:j < k) (h:f_h (i_W tag) ts i j=0) (he:i_W tag (ts.getD (i+j) 0)≠0) :
  c_C ws ts i k tag=i_W tag (ts.getD (i+j) 0)∧c_2 ws ts i k tag=[]∧c_L ws ts i k tag=[]:=by
 have e:c_C ws ts i k tag=i_W tag (ts.getD (i+j) 0):=by
  rw [c_C,if_pos ⟨hm,ht⟩,if_pos hw];exact h_i h rfl he (by simpa using hj)
 exact ⟨e,by rw [c_2,if_neg (by rw [e];exact he)],by rw [c_L,if_neg (by rw [e];exact he)]⟩
theorem j_p {ws ts:List Int} {i k:Nat} {tag:Int} (hm:d_g ws ts=true) (hw:b_5 ws.length i k=true) (ht:tag=1∨tag=2) (h:f_h (i_W tag) ts i k=0) :
  c_C ws ts i k tag=0∧c_2 ws ts i k tag=ws∧c_L ws ts i k tag=j_1 ts i tag k:=by
 have e:c_C ws ts i k tag=0:=by
  rw [c_C,if_pos ⟨hm,ht⟩,if_pos hw];simpa using h
 exact ⟨e,by rw [c_2,if_pos e],by rw [c_L,if_pos e];simp⟩
theorem p_a (tag t:Int) (w:World) (f:Nat) (hf:(tag=1∧f=164)∨(tag=2∧f=126)) (h0:0≤t) (h2:t≤2) :
  Calls Tryz.prog f #[.int .i64 t] w fun e w'=>e=.returned (.int .i64 (i_W tag t))∧Below w.heap.size w w':=by
 rcases hf with ⟨rfl,rfl⟩ | ⟨rfl,rfl⟩
 ·exact h_u t w h0 h2
 ·exact f_m t w h0 h2
theorem n_x (b1 o1 b2 o2 n c c':Nat) (ws ts:List Int) (i k:Nat) (tag:Int) (f:Nat) (hf:(tag=1∧f=164)∨(tag=2∧f=126)) (w:World)
  (S1:Sl w (some ⟨b1,o1,none⟩) n ws) (S2:Sl w (some ⟨b2,o2,none⟩) n ts) (hn:ws.length=n) (hn':ts.length=n) (R1:Row w b1 o1 ws) (R2:Row w b2 o2 ts) (hm:d_g ws ts=true) (hk:1≤k) (hik:i+k≤n) (z4:n≤160) :
  Calls Tryz.prog 153 #[.agg #[.slice (some ⟨b1,o1,none⟩) n c,.slice (some ⟨b2,o2,none⟩) n c'],.int .i64 i,.int .i64 k,.int .i64 tag] w (i_1 (c_2 ws ts i k tag) (c_L ws ts i k tag) (c_C ws ts i k tag) w):=by
 have ⟨Hn,Hn',Hm⟩:=hh3 hn hn' hm;have HT:=Lib.hid (fun j (hj:j < ts.length)=>g_G hm j (by rw [Hn.out,←Hn'.out];exact hj));have HI:b_5 n i k=true:=by simp [b_5];omega
 have HI':=Lib.hid HI;clear hn hn' hm HI;have HG:Hid (tag=1∨tag=2):=hf.imp (fun h=>h.1) (fun h=>h.1)
 have b0:(tag=1∧(tag != 1)=false∧(tag==1)=true∧f=164)∨(tag=2∧(tag != 1)=true∧(tag != 2)=false∧(tag==1)=false∧f=126):=by
  rcases hf with ⟨rfl,rfl⟩ | ⟨rfl,rfl⟩ <;> simp
 clear hf
 rcases b0 with ⟨h1,b1',b2',rfl⟩ | ⟨h1,b1',b2',b3',rfl⟩
 all_goals
  have HF:=Lib.hid h1;clear h1
  go_enter Tryz.func153,Tryz.ntmps153
  go_wp2_with fail
  refine (c_k _ _ n c n c' ws ts _ (slA _ (slA _ S1)) (slA _ (slA _ S2))).mono ?_;rintro e w1 ⟨rfl,hb⟩;have hb1:=N11;obtain ⟨hc,hfr⟩:=g_x hb;have hs1:=N82;rw [Hm.out]
  go_wp2_with fail
  refine (g_k _ _ n c n c' i k _ z4 (by omega) (by omega)).mono ?_;rintro e w2 ⟨rfl,hb'⟩;have hb2:=N167;obtain ⟨hc',hfr'⟩:=g_x hb';have hs2:=N182;have hs0:w.heap.size < w1.heap.size:=by omega
  rw [HI'.out]
  go_wp2_with fail
  refine (g_Y b1 o1 b2 o2 n c c' ws ts _ Hn.out Hn'.out (p_P hb2 R1) (p_P hb2 R2) z4).mono ?_;rintro e w3 ⟨p,q,rfl,hpq,hp,hq,hhp,hhq,hb''⟩;have hb3:Below w.heap.size w w3:=hb2.trans (hb''.mono hb2.size);have hs3:w.heap.size+1 < w3.heap.size:=by have:=hb''.size;omega
  have r0:w3.cell? ⟨w.heap.size+1,0,none⟩=some (.slice none 0 0):=by rw [hb''.cell (p:=⟨w.heap.size+1,0,none⟩) (by simp;omega),hc' _ _ (by omega),hc _ _ (by simp)];simp
  have r1:w3.cell? ⟨w.heap.size+1,1,none⟩=some (.slice none 0 0):=by rw [hb''.cell (p:=⟨w.heap.size+1,1,none⟩) (by simp;omega),hc' _ _ (by omega),hc _ _ (by simp)];simp
  have r2:w3.cell? ⟨w.heap.size,1,none⟩=some (.slice (some ⟨b2,o2,none⟩) n c'):=by rw [hb''.cell (p:=⟨w.heap.size,1,none⟩) (by simp;omega),hc' _ _ (by omega),hc _ _ (by simp;omega)];simp
  have r3:w3.frozen? ⟨w.heap.size+1,0,none⟩=false:=by rw [hb''.frozen (p:=⟨w.heap.size+1,0,none⟩) (by simp;omega),hfr' _ _ (by omega),hfr _ _ (by simp)];exact b_C (a_4 _ _ _ (by simp))
  have r4:w3.frozen? ⟨w.heap.size+1,1,none⟩=false:=by rw [hb''.frozen (p:=⟨w.heap.size+1,1,none⟩) (by simp;omega),hfr' _ _ (by omega),hfr _ _ (by simp)];exact b_C (a_4 _ _ _ (by simp))
  have hp3:=f_5 hhp;have hq3:=f_5 hhq;have ⟨Hp,Hq⟩:=hh2 hhp hhq;have Rt:=p_P hb3 R2;clear hc hfr hc' hfr' hhp hhq;have m0:=b_a (Obj.cells #[.slice (some ⟨p,0,none⟩) n n,.slice (some ⟨q,0,none⟩) n n] 26) r0;have m1:=b_a (Obj.cells #[.slice (some ⟨p,0,none⟩) n n,.slice (some ⟨q,0,none⟩) n n] 26) r1;have m2:=b_a (Obj.cells #[.slice (some ⟨p,0,none⟩) n n,.slice (some ⟨q,0,none⟩) n n] 26) r2;have m3:(w3.alloc (Obj.cells #[.slice (some ⟨p,0,none⟩) n n,.slice (some ⟨q,0,none⟩) n n] 26)).cell? ⟨w3.heap.size,0,none⟩=some (.slice (some ⟨p,0,none⟩) n n):=by simp
  have m4:(w3.alloc (Obj.cells #[.slice (some ⟨p,0,none⟩) n n,.slice (some ⟨q,0,none⟩) n n] 26)).cell? ⟨w3.heap.size,1,none⟩=some (.slice (some ⟨q,0,none⟩) n n):=by simp
  have ⟨M0,M1,M2,M3,M4⟩:=hh5 m0 m1 m2 m3 m4;have MF0:=Lib.hid ((n_6 (Obj.cells #[.slice (some ⟨p,0,none⟩) n n,.slice (some ⟨q,0,none⟩) n n] 26) r0).trans r3);have MF1:=Lib.hid ((n_6 (Obj.cells #[.slice (some ⟨p,0,none⟩) n n,.slice (some ⟨q,0,none⟩) n n] 26) r1).trans r4);have MR:=Lib.hid (l_0 (Obj.cells #[.slice (some ⟨p,0,none⟩) n n,.slice (some ⟨q,0,none⟩) n n] 26) Rt);have MP:=Lib.hid ((b_q w3 (Obj.cells #[.slice (some ⟨p,0,none⟩) n n,.slice (some ⟨q,0,none⟩) n n] 26) p hp3).trans Hp.out);have MQ:=Lib.hid ((b_q w3 (Obj.cells #[.slice (some ⟨p,0,none⟩) n n,.slice (some ⟨q,0,none⟩) n n] 26) q hq3).trans Hq.out);have hb4:Below w.heap.size w (w3.alloc (Obj.cells #[.slice (some ⟨p,0,none⟩) n n,.slice (some ⟨q,0,none⟩) n n] 26)):=hb3.alloc hb3.size _;have hqw:w.heap.size+1 < q:=by have:=hb'.size;omega
  have hpw:w.heap.size+1 < p:=by have:=hb'.size;omega
  have hb2w:b2 < w.heap.size:=b_c (R2 0 (by rw [Hn'.out];omega));clear m0 m1 m2 m3 m4 r0 r1 r2 r3 r4 Rt hb'' hb3 hb' hb2 hb hb1 hs0 hs1 hs2
  go_wp2_with fail
  obtain ⟨W,hW⟩:=nm (w3.alloc (Obj.cells #[.slice (some ⟨p,0,none⟩) n n,.slice (some ⟨q,0,none⟩) n n] 26));have hWs:W.heap.size=w3.heap.size+1:=by rw [hW];simp
  rw [←hW] at M0 M1 M2 M3 M4 MF0 MF1 MR MP MQ hb4 ⊢;clear hW
  go_loopw [12] (fun s wr=>∃ j:Nat,j≤k∧s=.int .i64 ((i+j:Nat):Int)∧Hid (j_2 ws ts i tag p q W j wr)) (fun s _=>i+k - (intOf s).toNat)
  case atStart=>exact ⟨0,by omega,rfl,rfl,Only.refl _ _,MP.out,MQ.out⟩
  case round =>
   obtain ⟨j,hj,rfl,hr⟩:=hrel;have ho:=hr.out.2.1;have n2:=ho.cell (by simp;omega) M2.out;have n3:=ho.cell (by simp;omega) M3.out;have n4:=ho.cell (by simp;omega) M4.out;have n0:=ho.cell (by simp;omega) M0.out;have n1:=ho.cell (by simp;omega) M1.out;have nf0:=(ho.frozen (by simp;omega) M0.out).trans MF0.out;have nf1:=(ho.frozen (by simp;omega) M1.out).trans MF1.out;have hsz:=ho.size;have hbw:=ho.to_below hb4 (by omega);clear ho
   by_cases hlt:j < k
   ·have hij:i+j < n:=by omega
    have g1:=hr.out.2.1.cell (by simp;omega) (MR.out (i+j) (by rw [Hn'.out];exact hij));have HT1:=HT.out (i+j) (by rw [Hn'.out];exact hij);have HGO:=Lib.hid (fun w' hb=>t_U (w':=w') hr.out hpq hb);have HST:=Lib.hid (j_q (k:=k) Hm.out (by rw [Hn.out];exact HI'.out) HG.out hlt hr.out.1);have nq:=l_B (k:=i+j) hr.out.2.2.2 (by rw [d_i,Hn'.out];exact hij);have nfq:=b_C (k:=i+j) hr.out.2.2.2
    generalize ts.getD (i+j) 0=tv at g1 HT1 HGO HST
    generalize (j_1 ts i tag j).getD (i+j) 0=ov at nq
    obtain ⟨T0,T2⟩:=HT1
    go_wp2_with fail
    refine (p_a tag tv _ _ (by first | exact .inl ⟨HF.out,rfl⟩ | exact .inr ⟨HF.out,rfl⟩) T0 T2).mono ?_;rintro e w5 ⟨rfl,hb5⟩;have n0':=a_u hb5 n0;have n1':=a_u hb5 n1;have n4':=a_u hb5 n4;have n3':=a_u hb5 n3;have nq':=a_u hb5 nq;have nf0':=(hb5.frozen (b_c n0)).trans nf0;have nf1':=(hb5.frozen (b_c n1)).trans nf1;have nfq':=(hb5.frozen (b_c nq)).trans nfq;have hsz5:=hb5.size;have hbw5:=a_b hbw hb5;have HB5:=Lib.hid hb5;clear n0 n1 n2 n3 n4 nf0 nf1 nq nfq g1 hb5
    by_cases hz:i_W tag tv=0
    ·have HZ:=Lib.hid hz;have HR:=Lib.hid (HGO.out _ HB5.out hz);rw [hz];clear hz
     go_wp2
     go_roundw
     case rel=>exact ⟨j+1,by omega,by go_num,HR.out⟩
     case measure=>simp [intOf];omega
    ·have HZ:=Lib.hid hz;have hz':(i_W tag tv != 0)=true:=by simpa using hz
     obtain ⟨x1,x2,x3⟩:=HST.out hz;obtain ⟨ev,hev⟩:=mn (i_W tag tv);have HX:=Lib.hid hev;rw [hev] at x1;have ⟨X1,X2,X3⟩:=hh3 x1 x2 x3;rw [hev] at hz' ⊢;clear hz hev x1 x2 x3
     go_wp2
     refine a_l ⟨w.heap.size+1,0,none⟩ rfl rfl rfl (c_B _ _ _ _ (by go_cell_look) (by go_cell_look)) ?_;rw [X1.out,X2.out,X3.out];exact d_9 (by go_grown)
   ·obtain rfl:j=k:=by omega
    have HDN:=Lib.hid (j_p Hm.out (by rw [Hn.out];exact HI'.out) HG.out hr.out.1);have hP:=Lib.hid hr.out.2.2.1;have hQ:=Lib.hid hr.out.2.2.2
    go_wp2
    refine a_l ⟨w.heap.size+1,0,none⟩ rfl rfl rfl (c_B _ _ _ _ (by go_cell_look) (by go_cell_look)) ?_;rw [HDN.out.1,HDN.out.2.1,HDN.out.2.2];refine g_7 (t:=3) (t':=3) (fr:=(0,0)) (fr':=(0,0)) Hn.out (by rw [d_i,Hn'.out]) (by omega) (by omega) ?_ ?_ (by go_grown)
    ·rw [Below.heap_setCell _ _ _ _ (by simp;omega),Below.heap_setCell _ _ _ _ (by simp;omega)];exact hP.out
    ·rw [Below.heap_setCell _ _ _ _ (by simp;omega),Below.heap_setCell _ _ _ _ (by simp;omega)];exact hQ.out
theorem p_S (a a':Option Addr) (n c n' c':Nat) (ws ts:List Int) (i k tag:Int) (w:World) (S1:Sl w a n ws) (S2:Sl w a' n' ts) (hi:(Lit.int .i64 i).wf=true) :
  Calls Tryz.prog 153 #[.agg #[.slice a n c,.slice a' n' c'],.int .i64 i,.int .i64 k,.int .i64 tag] w (i_1 (c_2 ws ts i k tag) (c_L ws ts i k tag) (c_C ws ts i k tag) w):=by
 have hb0:=N79;have HB:=Lib.hid hb0;clear hb0 hi
 by_cases hm:d_g ws ts=true
 ·by_cases ht:tag=1∨tag=2
  ·obtain ⟨z0,z1,z2⟩:=c_s hm;have hn:=S1.1;have hn':=S2.1;obtain rfl:n'=n:=by omega
   obtain ⟨-,b1,o1,rfl,R1⟩:=c_V S1 (by omega);obtain ⟨-,b2,o2,rfl,R2⟩:=c_V S2 (by omega)
   by_cases hw:b_5 n' i k=true
   ·simp only [b_5,decide_eq_true_eq] at hw;obtain ⟨i,rfl⟩:=Int.eq_ofNat_of_zero_le hw.2.1;obtain ⟨k,rfl⟩:=N245;exact n_x b1 o1 b2 o2 n' c c' ws ts i k tag (if tag=1 then 164 else 126) (by rcases ht with rfl | rfl <;> simp) w S1 S2 hn hn' R1 R2 hm (by omega) (by omega) (by omega)
   ·have z4:n'≤160:=by omega
    have e:c_C ws ts i k tag=3:=by rw [c_C,if_pos ⟨hm,ht⟩,if_neg (by rw [hn];exact hw)]
    have E:=N42;rw [E.out.1,E.out.2.1,E.out.2.2];have Hm:=Lib.hid hm;have Hw:=Lib.hid (by simpa using hw:b_5 n' i k=false)
    have b0:((tag != 1)=false)∨((tag != 1)=true∧(tag != 2)=false):=by
     rcases ht with rfl | rfl <;> simp
    clear e hm hw ht z0 z1 z2 hn hn'
    rcases b0 with h1 | ⟨h1,h2⟩
    all_goals
     go_enter Tryz.func153,Tryz.ntmps153
     go_wp2_with fail
     refine (c_k _ _ n' c n' c' ws ts _ (slA _ (slA _ S1)) (slA _ (slA _ S2))).mono ?_;rintro e w1 ⟨rfl,hb⟩;have hb1:=N11;obtain ⟨hc,hf⟩:=g_x hb;have hs1:=N82;have hs0:w.heap.size < w1.heap.size:=by omega
     have g3:=N185;have g4:=N186;rw [Hm.out]
     go_wp2_with fail
     refine (g_k _ _ n' c n' c' i k _ z4 HB.out.1 HB.out.2).mono ?_;rintro e w2 ⟨rfl,hb'⟩;have hb2:=N167;obtain ⟨hc',hf'⟩:=g_x hb';have k3:w2.cell? ⟨w.heap.size+1,0,none⟩=some (.slice none 0 0):=by rw [hc' _ _ (by omega)];exact g3
     have k4:w2.cell? ⟨w.heap.size+1,1,none⟩=some (.slice none 0 0):=by rw [hc' _ _ (by omega)];exact g4
     have hs2:=N182;rw [Hw.out];exact J57
  ·have e:c_C ws ts i k tag=1:=by rw [c_C,if_neg (fun h=>ht h.2)]
   have E:=N42;rw [E.out.1,E.out.2.1,E.out.2.2];have Hm:=Lib.hid hm;have h1:(tag != 1)=true:=by simp;omega
   have h2:(tag != 2)=true:=by simp;omega
   clear e hm ht;exact J39
 ·have e:c_C ws ts i k tag=1:=by rw [c_C,if_neg (fun h=>hm h.1)]
  have E:=N42;rw [E.out.1,E.out.2.1,E.out.2.2];have Hm:=Lib.hid (by simpa using hm:d_g ws ts=false);clear e hm;exact J39
end Go.Proofs.YtogdpojnbgeknaaGreatDoor
