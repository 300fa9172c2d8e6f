/- The card of StepBroad: who goes on behind a broad knows that each put that waited anywhere when it began has been flushed; no condition but the ones that the card itself names. -/
import Derived.Test.YtogdpojnbgeknaaGreatDoorB25
set_option maxRecDepth 100000
set_option maxHeartbeats 16000000
namespace Go.Proofs.YtogdpojnbgeknaaGreatDoor
open Go.ChangeShapes Go.WideShapes Go.ChangeAt Go.RowKit
open Gen
theorem h_M {W:World} (hs:W.ShapedOpen Tryz.prog) (hL:laidMetH Tryz.prog Rows.stepBroadRow.laid W):Glob W:=by
 rw [MakeChecks.laidMetH_plain _ _ _ (by kernel_rfl)] at hL;obtain ⟨ps,⟨g,t,cs,fuel,p,q,hg,ht,hv,hd,-,-⟩,-⟩:=hL;obtain rfl:=Option.some.inj (Tryz.gOps.symm.trans hg);obtain rfl:=Option.some.inj (gOpsT8.symm.trans ht);have hc:=n_c hd;exact ⟨h_Q hs,by rw [hv,←hc]⟩
theorem f_a:laidOutB Tryz.prog=true:=by kernel_rfl
theorem j_v (os:Os) (started:os.Started) (H:Type) (enc:TypeId×Value→H) :
  ReturnsInHanded {} Tryz.checked os 7 .any ((OpenSpec.ofChange Rows.stepBroadSpec).preRow enc Tryz.prog Tryz.f7 Rows.stepBroadRow.domain false Rows.stepBroadRow.laid)
   (Rows.stepBroadSpec.post enc Tryz.prog Tryz.f7 false true false false):=by
 refine returnsInHanded_of_row (C:=Tryz.checked) (s:=OpenSpec.ofChange Rows.stepBroadSpec) (F:=fun _ _ _=>0) Tryz.own started (by kernel_rfl) Tryz.func7
  (ChangeSpec.witness_shaped (enc:=enc) (C:=Tryz.checked) (os:=os) (s:=Rows.stepBroadSpec) (X:=fun w _=>laidMetH Tryz.prog Rows.stepBroadRow.laid w) false (World.laidAll Tryz.prog os Rows.stepBroadRow.laid) #[.slice none 0 0,.slice none 0 0,.slice none 0 0,.slice none 0 0,.int .i64 0,.slice none 0 0,.slice none 0 0,.int .i64 0] 8 (World.laidAll_os _ _ _)
   (World.shaped_of_ZipB (by kernel_rfl) (by kernel_rfl)) (by kernel_rfl) (by kernel_rfl) (by kernel_rfl)
   (by rw [MakeChecks.laidMetH_plain _ _ _ (by kernel_rfl)];exact laidMet_laidAll _ (by kernel_rfl) (by kernel_rfl))) ?_
 intro W base args ds gs before hval0 hW _ _ _ hL hsh _;have hval:∀ (j:Nat) t v,Tryz.f7.params[j]?=some t→args[j]?=some v→Value.okWide Tryz.prog W .any base t v:=hval0;have hW':=hW;obtain ⟨p,q,hA0,hV,rfl,_,_⟩:=hW;have hA:DataW.TrodAll enc Tryz.prog W 0 (fun _=>true) true Tryz.f7.params.toList args.toList ds p:=hA0;rw [Tryz.params7] at hA hval;obtain ⟨v0,vs0,d0,ds0,p0,q0,hargs,rfl,rfl,h0,r0⟩:=trodAll_cons hA;obtain ⟨v1,vs1,d1,ds1,p1,q1,rfl,rfl,rfl,h1,r1⟩:=trodAll_cons r0;obtain ⟨v2,vs2,d2,ds2,p2,q2,rfl,rfl,rfl,h2,r2⟩:=trodAll_cons r1;obtain ⟨v3,vs3,d3,ds3,p3,q3,rfl,rfl,rfl,h3,r3⟩:=trodAll_cons r2;obtain ⟨v4,vs4,d4,ds4,p4,q4,rfl,rfl,rfl,h4,r4⟩:=trodAll_cons r3;obtain ⟨v5,vs5,d5,ds5,p5,q5,rfl,rfl,rfl,h5,r5⟩:=trodAll_cons r4;obtain ⟨v6,vs6,d6,ds6,p6,q6,rfl,rfl,rfl,h6,r6⟩:=trodAll_cons r5;obtain ⟨v7,vs7,d7,ds7,p7,q7,rfl,rfl,rfl,h7,r7⟩:=trodAll_cons r6;obtain ⟨rfl,rfl,rfl⟩:=trodAll_nil r7;obtain rfl:args=#[v0,v1,v2,v3,v4,v5,v6,v7]:=by cases args;simp_all
 obtain ⟨rfl,rfl⟩:=trodVars_none hV;have k0:=h0;have lt0:∀ x∈p0,x.block < W.heap.size:=by obtain ⟨m,hm⟩:=k0;exact DataW.trod_lt m _ _ _ hm
 obtain ⟨a0,n0,c0,rfl⟩:=okWide_slice Tryz.underlying22 (hval 0 22 v0 rfl rfl);obtain ⟨b0,m0,e0,z0,f0,w0⟩:=m_9 h0;simp [Value.cells] at f0;obtain ⟨rfl,rfl,rfl⟩:=f0;have k1:=h1;have lt1:∀ x∈p1,x.block < W.heap.size:=by obtain ⟨m,hm⟩:=k1;exact DataW.trod_lt m _ _ _ hm
 obtain ⟨a1,n1,c1,rfl⟩:=okWide_slice Tryz.underlying23 (hval 1 23 v1 rfl rfl);obtain ⟨b1,m1,e1,z1,f1,w1⟩:=f_C h1;simp [Value.cells] at f1;obtain ⟨rfl,rfl,rfl⟩:=f1;have k2:=h2;have lt2:∀ x∈p2,x.block < W.heap.size:=by obtain ⟨m,hm⟩:=k2;exact DataW.trod_lt m _ _ _ hm
 obtain ⟨a2,n2,c2,rfl⟩:=okWide_slice Tryz.underlying23 (hval 2 23 v2 rfl rfl);obtain ⟨b2,m2,e2,z2,f2,w2⟩:=f_C h2;simp [Value.cells] at f2;obtain ⟨rfl,rfl,rfl⟩:=f2;have k3:=h3;have lt3:∀ x∈p3,x.block < W.heap.size:=by obtain ⟨m,hm⟩:=k3;exact DataW.trod_lt m _ _ _ hm
 obtain ⟨a3,n3,c3,rfl⟩:=okWide_slice Tryz.underlying23 (hval 3 23 v3 rfl rfl);obtain ⟨b3,m3,e3,z3,f3,w3⟩:=f_C h3;simp [Value.cells] at f3;obtain ⟨rfl,rfl,rfl⟩:=f3;obtain ⟨a4,rfl,rfl,rfl,w4⟩:=open_int Tryz.underlying3 (hval 4 3 v4 rfl rfl) h4;have k5:=h5;have lt5:∀ x∈p5,x.block < W.heap.size:=by obtain ⟨m,hm⟩:=k5;exact DataW.trod_lt m _ _ _ hm
 obtain ⟨a5,n5,c5,rfl⟩:=okWide_slice Tryz.underlying50 (hval 5 50 v5 rfl rfl);obtain ⟨b5,m5,e5,z5,f5,w5⟩:=h_m h5;simp [Value.cells] at f5;obtain ⟨rfl,rfl,rfl⟩:=f5;have k6:=h6;have lt6:∀ x∈p6,x.block < W.heap.size:=by obtain ⟨m,hm⟩:=k6;exact DataW.trod_lt m _ _ _ hm
 obtain ⟨a6,n6,c6,rfl⟩:=okWide_slice Tryz.underlying50 (hval 6 50 v6 rfl rfl);obtain ⟨b6,m6,e6,z6,f6,w6⟩:=h_m h6;simp [Value.cells] at f6;obtain ⟨rfl,rfl,rfl⟩:=f6;obtain ⟨a7,rfl,rfl,rfl,w7⟩:=open_int Tryz.underlying3 (hval 7 3 v7 rfl rfl) h7;clear hA0 hval0;refine (h_L a0 a1 a2 a3 a5 a6 n0 c0 n1 c1 n2 c2 n3 c3 n5 c5 n6 c6 z0 z1 z2 z3 a4 z5 z6 a7 W ⟨w0.2.2.2.1,k_e w1.2.2.2.1,k_e w2.2.2.2.1,k_e w3.2.2.2.1,w5.2.2.2.1,⟨w0.1,w0.2.1⟩,⟨w1.1,w1.2.1⟩,⟨w2.1,w2.2.1⟩,⟨w3.1,w3.2.1⟩,⟨w5.1,w5.2.1⟩,w0.2.2.2.2,w2.2.2.2.2,h_M hsh hL⟩ w6.2.2.2.1 ⟨w6.1,w6.2.1⟩).mono fun e W' ⟨he,hb⟩=>?_
 subst he;exact ⟨_,rfl,_,_,_,[],_,[],hW',trodAll_mk1 (shut_bool Tryz.underlying4 _),(trodAll_cons_mk (Below.trod f_a (by kernel_rfl) (of_decide_eq_true (by kernel_rfl)) k0 hb lt0) (trodAll_cons_mk (Below.trod f_a (by kernel_rfl) (of_decide_eq_true (by kernel_rfl)) k1 hb lt1) (trodAll_cons_mk (Below.trod f_a (by kernel_rfl) (of_decide_eq_true (by kernel_rfl)) k2 hb lt2) (trodAll_cons_mk (Below.trod f_a (by kernel_rfl) (of_decide_eq_true (by kernel_rfl)) k3 hb lt3) (trodAll_cons_mk (shut_int Tryz.underlying3 w4) (trodAll_cons_mk (Below.trod f_a (by kernel_rfl) (of_decide_eq_true (by kernel_rfl)) k5 hb lt5) (trodAll_cons_mk (Below.trod f_a (by kernel_rfl) (of_decide_eq_true (by kernel_rfl)) k6 hb lt6) (trodAll_cons_mk (shut_int Tryz.underlying3 w7) trodAll_mk0)))))))),rfl,hb.frame _,fun h=>by cases h⟩
theorem k_z:Rows.StepBroadSaid:=
 OpenClaim.holds_of_wide 7 Tryz.f7 rfl rfl rfl rfl rfl rfl rfl ⟨rfl,rfl,rfl,rfl,rfl⟩ rfl rfl rfl rfl rfl (by kernel_rfl) Tryz.func7 (by kernel_rfl)
  (of_decide_eq_true (by kernel_rfl)) (by unfold Func.isWrapper;first | (rw [if_pos (by decide +kernel)];kernel_rfl) | (rw [if_neg (by decide +kernel)];exact ⟨rfl,rfl⟩))
  (fun os started H enc _=>by rw [OpenClaim.pre_eq_preRow];exact j_v os started H enc)
theorem StepBroadCard_proved:Rows.StepBroadCardSaid:=
 Claim7.holds_tied_plain_at .later [] [.data] true (true,"f169b2f0a518d1503dd49bd6c906624d7896f6690a25ad805fdea58a1390e154") true k_z (fun _ h=>by cases h) (by kernel_rfl) (fun _ h=>by cases h) stepBroad_row_tie rfl ⟨rfl,rfl⟩ (by kernel_rfl) rfl
  (fun f fn hf hfn=>by
   obtain rfl:f=7:=Option.some.inj ((show Tryz.prog.funcNamed "respite/respitelaw08.StepBroad"=some 7 by kernel_rfl).symm.trans hf) |>.symm
   obtain rfl:fn=Tryz.f7:=(Option.some.inj (Tryz.func7.symm.trans hfn)).symm
   exact ⟨by kernel_rfl,fun j t ht=>by
    rw [Tryz.params7] at ht;have hm:t∈[22,23,23,23,3,50,50,3]:=by simpa using Array.mem_of_getElem? ht
    have hall:([22,23,23,23,3,50,50,3].all fun u=>!Tryz.prog.wantsStandIn u)=true:=by kernel_rfl
    exact (show Tryz.prog.wantsStandIn t=false by simpa using List.all_eq_true.1 hall t hm)⟩)
  (by kernel_rfl)
end Go.Proofs.YtogdpojnbgeknaaGreatDoor
