import Derived.Test.YtogdpojnbgeknaaGreatDoorT3
import Derived.Maps.AppendAt
import Derived.IntWalk
import Derived.Test.YtogdpojnbgeknaaGreatDoorT0
set_option maxRecDepth 100000
set_option maxHeartbeats 16000000
namespace Go.Proofs.YtogdpojnbgeknaaGreatDoor
open Go.ChangeShapes Go.WideShapes Go.ChangeAt Go.RowKit
open Gen
open Lib (hid)
theorem e_Y {P:Program} {ops:Array Oper} {o:Oper} {a:Act} {w:World} {K:Act→World→Prop} {Q:Exit→Act→World→Prop} {E:Prop}
  (hg:o.guard=none) (s x:Operand) (t:TypeId) (hop:o.op=Op.call { callee:=Callee.builtin Builtin.append,args:=#[s,x],argTypes:=#[t,t] })
  (base:Nat) (e:TypeId) (i:TypeInfo) (z:Value) (size bytes:Nat) (h1:P.underlying t=some (.slice e)) (h2:P.info? e=some i) (h3:i.zero=some z) (h4:i.size=size) (h5:i.bytes=bytes) (h6:z.cells.size=size) (h7:0 < size)
  (v:Value) (n:Nat) (xs:List Value) (hs:a.eval s=v) (hown:w.ownsRow base e size v n xs)
  (ad:Addr) (m c:Nat) (news:List Value) (hx:a.eval x=.slice (some ad) m c) (hn:news.length=m*size) (hc:∀ j u,news[j]?=some u→w.cell? (ad.add j)=some u) (h1c:∀ u∈news,u.oneCell'=true)
  (b1:n+m≤maxLen) (b2:(n+m)*bytes≤140737488355328) (hbase:base≤w.heap.size)
  (hK:∀ v' w',w'.ownsRow base e size v' (n+m) (xs++news)→w.grownBy w' v.ownBlock→(v'.ownBlock=v.ownBlock∨v'.ownBlock=some w.heap.size)→K (a.put o.dst v') w') :
  if Region.wanted o (yielded ops a.tmps)=true then Oper.wp P o a w K Q else E:=by
 have hw:=N225;rw [if_pos hw];obtain ⟨v',w',hrun,r1,r2,_,r3⟩:=run_append_own_at (P:=P) w base t o.type e i z size bytes h1 h2 h3 h4 h5 h6 h7 v n xs hown ad m c news hn hc h1c b1 b2 hbase;unfold Oper.wp;simp [execOp,hop,resolve,invoke,builtin,hs,hx,hrun,Result.andThen];exact hK v' w' r1 r2 r3
def d_w (t:Thr) (tg:Int):Int:=if a_1 t=true∧t.pc≠1000∧0≤tg∧tg≤1000 then (if t.fs.length=6 then 13 else 0) else 1
def f_d (t:Thr) (tg:Int):Thr:=if d_w t tg=0 then ⟨tg,t.r,t.fs++[(t.pc+1,t.r 4,t.r 5,t.r 6,t.r 7)],t.st,t.ft,t.lf⟩ else d_E
theorem f_E {t:Thr} {tg:Int} (h:d_w t tg≠0):f_d t tg=d_E:=by rw [f_d,if_neg h]
theorem b_D {t:Thr} (h:a_1 t=true):0≤t.pc∧t.pc≤1000:=by
 exact J92
theorem e_c {t:Thr} {x:Int} {w w':World} {fa la:Option Addr} {fn fc ln lc:Nat} (h1:t.fs.length=fn) (h2:t.lf.length=ln) (F:ThQ (fun b=>w.heap.size≤b) w' fa fn fc la ln lc t) (B:Below w.heap.size w w') :
  ThPostF t x w (.returned (.tuple #[.agg (thC t fa fn fc la ln lc).toArray,.int .i64 x])) w':=by
 subst h1 h2;exact ⟨fa,fc,la,lc,rfl,F,B⟩
structure CallB (w:World) (t:Thr) (g k F:Nat) (fa0 fa la0 la:Option Addr) (n fc0 fc ln lc0 lc:Nat) (x9:Value) (w':World):Prop where
 b:Below w.heap.size w w'
 x:a_p w' g (thC t fa0 n fc0 la0 ln lc0)
 r:a_p w' (g+1) thN
 v:a_p w' k [.int .i64 t.pc,.int .i64 (t.r 0),.int .i64 (t.r 1),.int .i64 (t.r 2),.int .i64 (t.r 3),.int .i64 (t.r 4),.int .i64 (t.r 5),.int .i64 (t.r 6),.int .i64 (t.r 7),x9,.int .i64 t.st,.int .i64 t.ft,.slice la ln lc]
 l:Vs repInt (fun b=>g+2≤b∧b≠k∧(Value.slice fa n fc).ownBlock≠some b) w' la ln t.lf
structure CallC (w:World) (t:Thr) (g k F:Nat) (fa0 fa la0 la:Option Addr) (n fc0 fc ln lc0 lc:Nat):Prop where
 hg:w.heap.size=g
 hk:g+2≤k
 ho:∀ b,(Value.slice fa n fc).ownBlock=some b→g+2≤b∧b < k
section
variable {w:World} {t:Thr} {g k F:Nat} {fa0 fa la0 la:Option Addr} {n fc0 fc ln lc0 lc:Nat} {x9:Value} {w1 w2:World}
theorem k_c (hb:Below w1.heap.size w1 w2) (h:CallB w t g k F fa0 fa la0 la n fc0 fc ln lc0 lc x9 w1):CallB w t g k F fa0 fa la0 la n fc0 fc ln lc0 lc x9 w2:=
 ⟨a_b h.b hb,a_i hb h.x,a_i hb h.r,a_i hb h.v,g_B hb h.l⟩
theorem s_h (o:Obj) (h:CallB w t g k F fa0 fa la0 la n fc0 fc ln lc0 lc x9 w1):CallB w t g k F fa0 fa la0 la n fc0 fc ln lc0 lc x9 (w1.alloc o):=k_c ((Below.refl _ _).alloc (Nat.le_refl _) _) h
theorem k_d (c:CallC w t g k F fa0 fa la0 la n fc0 fc ln lc0 lc) (hg:w1.grownBy w2 (Value.slice fa n fc).ownBlock) (h:CallB w t g k F fa0 fa la0 la n fc0 fc ln lc0 lc x9 w1):CallB w t g k F fa0 fa la0 la n fc0 fc ln lc0 lc x9 w2:=by
 have c1:=c.hg;have c2:=c.hk;have ne:∀ b,b < g+2∨b=k→(Value.slice fa n fc).ownBlock≠some b:=fun b hb e=>by have:=c.ho b e;omega
 exact ⟨h.b.grown hg h.b.size (fun b hb=>by have:=c.ho b hb;omega),b_A hg (ne _ (by omega)) h.x,b_A hg (ne _ (by omega)) h.r,b_A hg (ne _ (by omega)) h.v,a_z (c_Y hg (fun b hb=>hb.2.2)) h.l⟩
theorem n_P (c:CallC w t g k F fa0 fa la0 la n fc0 fc ln lc0 lc) (y:Value) (h:CallB w t g k F fa0 fa la0 la n fc0 fc ln lc0 lc x9 w1):CallB w t g k F fa0 fa la0 la n fc0 fc ln lc0 lc y (w1.setCell ⟨k,9,none⟩ y):=by
 have c1:=c.hg;have c2:=c.hk;exact ⟨h.b.setCell (p:=⟨k,9,none⟩) (by show _≤k;omega) _,a_m h.x (by omega) _,a_m h.r (by omega) _,a_A h.v 9 (by simp) y,a_z (a_T _ _ _ (fun b hb=>hb.2.1)) h.l⟩
end
inductive CallInv (w:World) (t:Thr) (g k F:Nat) (fa0 fa la0 la:Option Addr) (n fc0 fc ln lc0 lc:Nat) (a0:Act) (w0:World) (listed:Array Bool) (act':Act) (w':World):Prop
 | mk (p28 p29 p30 p31 p32 p33 p34 p35 p36 p37 p38 p39:Value) (v9:Nat) (v10:Value) (x9:Value) (ea:act'=((((((((((((a0.put (some 28) p28).put (some 29) p29).put (some 30) p30).put (some 31) p31).put (some 32) p32).put (some 33) p33).put (some 34) p34).put (some 35) p35).put (some 36) p36).put (some 37) p37).put (some 38) p38).put (some 39) p39)) (hb:CallB w t g k F fa0 fa la0 la n fc0 fc ln lc0 lc x9 w'∧(¬ Up listed 10→w'.ownsRow F 105 5 (.slice fa n fc) n (t.fs.flatMap d_8)∧x9=.slice fa n fc)) (hf0:Up listed 0→p28=.pointer (some ⟨k,9,none⟩)) (hf1:Up listed 1→p29=.slice fa n fc) (hf2:Up listed 2→p30=.pointer (some ⟨g,0,none⟩)) (hf3:Up listed 3→p31=.int .i64 t.pc) (hf4:Up listed 4→p32=.int .i64 (t.pc+1)) (hf5:Up listed 5→p33=.pointer (some ⟨g,1,none⟩)) (hf6:Up listed 6→p34=.agg (rgC t.r).toArray) (hf7:Up listed 7→p35=.agg #[.int .i64 (t.r 4),.int .i64 (t.r 5),.int .i64 (t.r 6),.int .i64 (t.r 7)]) (hf8:Up listed 8→p36=.agg #[.int .i64 (t.pc+1),.int .i64 (t.r 4),.int .i64 (t.r 5),.int .i64 (t.r 6),.int .i64 (t.r 7)]) (hN:Up listed 9→p37=.slice (some ⟨v9,0,none⟩) 1 1∧k < v9∧a_p w' v9 [.int .i64 (t.pc+1),.int .i64 (t.r 4),.int .i64 (t.r 5),.int .i64 (t.r 6),.int .i64 (t.r 7)]) (hA:Up listed 10→p38=v10∧Up listed 1∧Up listed 9∧w'.ownsRow F 105 5 v10 (n+1) ((t.fs.flatMap d_8)++[.int .i64 (t.pc+1),.int .i64 (t.r 4),.int .i64 (t.r 5),.int .i64 (t.r 6),.int .i64 (t.r 7)])∧v10.ownBlock≠some k) (hf11:Up listed 11→p39=.pointer (some ⟨k,9,none⟩)) (hT:Up listed 12→Up listed 10∧x9=v10):CallInv w t g k F fa0 fa la0 la n fc0 fc ln lc0 lc a0 w0 listed act' w'
theorem k_s (t:Thr) (tg:Int) (fa0 la0:Option Addr) (fn fc0 ln lc0:Nat) (w:World) (F:ThF w fa0 fn fc0 la0 ln lc0 t) :
  Calls Tryz.prog 160 #[.agg (thC t fa0 fn fc0 la0 ln lc0).toArray,.int .i64 tg] w (ThPostF (f_d t tg) (d_w t tg) w):=by
 obtain ⟨W,hW⟩:=nm ((w.alloc (Obj.cells (thC t fa0 fn fc0 la0 ln lc0).toArray 46)).alloc (Obj.cells thN.toArray 46));have X:a_p W w.heap.size (thC t fa0 fn fc0 la0 ln lc0):=by rw [hW];exact a_s _ (a_e (thC t fa0 fn fc0 la0 ln lc0) _ rfl)
 have R:=N14;have hB:=N2;have hz:=N84;have FW:=d_a hB F;have ⟨HX,HR,HB,HW,HZ,HF⟩:=hh6 X R hB hW hz F;clear hW X R hB F hz
 go_enter Tryz.func160,Tryz.ntmps160
 go_upto_region 1 with fail
 rw [←HW.out];have k0:=(HX.out 0 _ rfl).1;have k1:=(HX.out 1 _ rfl).1;have k2:=(HX.out 2 _ rfl).1;have k3:=(HX.out 3 _ rfl).1;have k4:=(HX.out 4 _ rfl).1;have k5:=(HX.out 5 _ rfl).1;have k6:=(HX.out 6 _ rfl).1;have k7:=(HX.out 7 _ rfl).1;have k8:=(HX.out 8 _ rfl).1;have k9:=(HX.out 9 _ rfl).1;have k10:=(HX.out 10 _ rfl).1;have k11:=(HX.out 11 _ rfl).1;have k12:=(HX.out 12 _ rfl).1
 cases hr:a_1 t with
 | false =>
  have HE:=hid (show d_w t tg=1 by rw [d_w,if_neg (by rw [hr];simp)]);have H1:=hid hr;clear hr
  go_wp2_with fail
  refine (d_d t fa0 la0 fn fc0 ln lc0 _ FW).mono ?_;rintro e w1 ⟨rfl,hb1⟩;rw [H1.out];have HR1:=hid (a_i hb1 HR.out);have HB1:=hid (a_b HB.out hb1);clear hb1 FW k0 k1 k2 k3 k4 k5 k6 k7 k8 k9 k10 k11 k12;exact J22
 | true =>
  have HL:=hid (d_G hr);have HP:=hid (b_D hr);have H1:=hid hr;clear hr
  go_wp2_with fail
  refine (d_d t fa0 la0 fn fc0 ln lc0 _ FW).mono ?_;rintro e w1 ⟨rfl,hb1⟩;rw [H1.out];have hz1:=hb1.size;rw [HZ.out] at hz1;have X1:=a_i hb1 HX.out;have HX1:=hid X1;have HR1:=hid (a_i hb1 HR.out);have HB1:=hid (a_b HB.out hb1);have F1:=d_a hb1 FW;have hfn:t.fs.length=fn:=F1.fs.1;have hln:t.lf.length=ln:=F1.lf.1;have hn6:fn≤6:=by have:=HL.out.1;omega
  have hl8:ln≤8:=by have:=HL.out.2;omega
  have ⟨HFN,HLN⟩:=hh2 hfn hln;clear hb1 FW k0 k1 k2 k3 k4 k5 k6 k7 k8 k9 k10 k11 k12 hfn hln;have k0:=(HX1.out 0 _ rfl).1;have k1:=(HX1.out 1 _ rfl).1;have k2:=(HX1.out 2 _ rfl).1;have k3:=(HX1.out 3 _ rfl).1;have k4:=(HX1.out 4 _ rfl).1;have k5:=(HX1.out 5 _ rfl).1;have k6:=(HX1.out 6 _ rfl).1;have k7:=(HX1.out 7 _ rfl).1;have k8:=(HX1.out 8 _ rfl).1;have k9:=(HX1.out 9 _ rfl).1;have k10:=(HX1.out 10 _ rfl).1;have k11:=(HX1.out 11 _ rfl).1;have k12:=(HX1.out 12 _ rfl).1;clear X1
  have hcase:(t.pc=1000)∨(t.pc≠1000∧decide (0≤tg∧tg≤1000)=false)∨(t.pc≠1000∧decide (0≤tg∧tg≤1000)=true):=by
   by_cases h:t.pc=1000
   ·exact .inl h
   ·cases decide (0≤tg∧tg≤1000) <;> simp [h]
  rcases hcase with h1 | ⟨h1,h2⟩ | ⟨h1,h2⟩
  ·have HE:=hid (show d_w t tg=1 by rw [d_w,if_neg (by rw [h1];simp)]);rw [h1] at k0;clear F1 h1;exact J22
  ·have HE:=hid (show d_w t tg=1 by rw [d_w,if_neg (by simp at h2;intro h;have:=h2 h.2.2.1;omega)]);have q1:(t.pc==1000)=false:=by simpa using h1
   have HD:=hid h2;clear F1 h1 h2;obtain ⟨y0,g0⟩:=HR1.out 0 _ rfl;obtain ⟨y1,g1⟩:=HR1.out 1 _ rfl;obtain ⟨y2,g2⟩:=HR1.out 2 _ rfl;obtain ⟨y3,g3⟩:=HR1.out 3 _ rfl;obtain ⟨y4,g4⟩:=HR1.out 4 _ rfl;obtain ⟨y5,g5⟩:=HR1.out 5 _ rfl;obtain ⟨y6,g6⟩:=HR1.out 6 _ rfl;obtain ⟨y7,g7⟩:=HR1.out 7 _ rfl;obtain ⟨y8,g8⟩:=HR1.out 8 _ rfl;obtain ⟨y9,g9⟩:=HR1.out 9 _ rfl;obtain ⟨y10,g10⟩:=HR1.out 10 _ rfl;obtain ⟨y11,g11⟩:=HR1.out 11 _ rfl;obtain ⟨y12,g12⟩:=HR1.out 12 _ rfl
   go_wp2_with fail
   refine (c_d tg 1000 _).mono ?_;rintro e w2 ⟨rfl,h⟩
   cases h
   rw [HD.out]
   go_wp2
   refine a_l ⟨w.heap.size+1,0,none⟩ rfl rfl rfl (b_r _ _ d_E none none 0 0 0 0 (a_q (xs:=thN) HR1.out rfl)) ?_;exact b_X (f_E (by rw [HE.out];decide)) HE.out (a_h (g:=w.heap.size+1) (xs:=thN) (k:=0) (by omega) HB1.out)
  ·have hto:0≤tg∧tg≤1000:=by simpa using h2
   have q1:(t.pc==1000)=false:=by simpa using h1
   have HD:=hid h2;have hcond:a_1 t=true∧t.pc≠1000∧0≤tg∧tg≤1000:=⟨H1.out,h1,hto⟩;have HC:=hid hcond;clear h1 h2 hcond
   go_wp2_with fail
   refine (c_d tg 1000 _).mono ?_;rintro e w2 ⟨rfl,h⟩
   cases h
   rw [HD.out]
   by_cases h6:fn=6
   ·have HE:=hid (show d_w t tg=13 by rw [d_w,if_pos HC.out,if_pos (by rw [HFN.out];exact h6)]);subst h6;clear F1;exact J22
   ·have HE:=hid (show d_w t tg=0 by rw [d_w,if_pos HC.out,if_neg (by rw [HFN.out];exact h6)]);have q6:((fn:Int)==6)=false:=by simp;omega
    clear h6
    go_wp2_with fail
    refine (h_U t fa0 la0 fn fc0 ln lc0 _ F1 (by omega) (by omega)).mono ?_;rintro e w2 ⟨fa,fc,la,lc,rfl,d1,d2,d3,d4,d5,hb2⟩;rw [HFN.out] at d1 d2 d3 ⊢;rw [HLN.out] at d4 d5 ⊢;have hz2:=hb2.size;obtain ⟨F0,hF0⟩:=mn (w1.heap.size);obtain ⟨kb,hk0⟩:=mn (w2.heap.size);rw [hF0] at d2 d3 d5 hz1 hz2;rw [hk0] at hz2;obtain ⟨Y0,hY0⟩:=nm (w2.alloc (Obj.cells (thC t fa fn fc la ln lc).toArray 46));have bY0:=N188;have K0:a_p Y0 kb (thC t fa fn fc la ln lc):=by rw [hY0];exact a_e (thC t fa fn fc la ln lc) _ hk0.symm
    rw [HFN.out] at d5;have hcc:CallC w t w.heap.size kb F0 fa0 fa la0 la fn fc0 fc ln lc0 lc:=⟨rfl,by omega,fun b e=>by have:=a_9 d2 e;omega⟩
    have hcb:CallB w t w.heap.size kb F0 fa0 fa la0 la fn fc0 fc ln lc0 lc (.slice fa fn fc) Y0:=
     ⟨a_b (a_b HB1.out hb2) bY0,a_i bY0 (a_i hb2 HX1.out),a_i bY0 (a_i hb2 HR1.out),K0,a_z (a_C bY0) (b_e (fun b hb=>⟨by omega,by omega,hb.1.2⟩) (c_O d5))⟩
    have hown:Y0.ownsRow F0 105 5 (.slice fa fn fc) fn (t.fs.flatMap d_8):=a_8 d2 bY0;obtain ⟨i0,hi,hz0,hz1',hz2'⟩:=N218;have HI:=hid (And.intro hi (And.intro hz0 (And.intro hz1' hz2')));have ⟨HY0,HC,HCB,HOW,HFK,HLC,HK0⟩:=hh7 hY0 hcc hcb hown hz2 d4 hk0;have HWR:=hid (show IntKind.i64.wrap (t.pc+1)=t.pc+1 from IntWalk.i64_in _ (by have:=HP.out;omega));clear hY0 bY0 K0 hcc hcb hown d1 d2 d3 d4 d5 hb2 F1 k0 k1 k2 k3 k4 k5 k6 k7 k8 k9 k10 k11 k12 hi hz0 hz1' hz2' hF0 hk0
    go_upto_region 6 with fail
    rw [←HY0.out,HK0.out];refine b_s (CallInv w t w.heap.size kb F0 fa0 fa la0 la fn fc0 fc ln lc0 lc) (by kernel_rfl) (by kernel_rfl) ?_ ?_ ?_
    ·intro listed hl;exact .mk undef undef undef undef undef undef undef undef undef undef undef undef 0 (.slice none 0 0) _ (by simp only [Act.put,sA,sB,sC]) (⟨k_c (Below.refl _ _).drew HCB.out,fun _=>⟨HOW.out.drew,rfl⟩⟩) (fun h=>absurd h (hl 0 (by decide))) (fun h=>absurd h (hl 1 (by decide))) (fun h=>absurd h (hl 2 (by decide))) (fun h=>absurd h (hl 3 (by decide))) (fun h=>absurd h (hl 4 (by decide))) (fun h=>absurd h (hl 5 (by decide))) (fun h=>absurd h (hl 6 (by decide))) (fun h=>absurd h (hl 7 (by decide))) (fun h=>absurd h (hl 8 (by decide))) (fun h=>absurd h (hl 9 (by decide))) (fun h=>absurd h (hl 10 (by decide))) (fun h=>absurd h (hl 11 (by decide))) (fun h=>absurd h (hl 12 (by decide)))
    ·show StepsL _ _ _ _ _ _ _
     refine StepsL.cons (k:=0) rfl (fun listed a1 w1 hI hn hw K hK=>?_) ?_
     ·cases hI with | mk p28 p29 p30 p31 p32 p33 p34 p35 p36 p37 p38 p39 v9 v10 x9 ea hb hf0 hf1 hf2 hf3 hf4 hf5 hf6 hf7 hf8 hN hA hf11 hT =>
       have HH_:=N5;clear hf0 hf1 hf2 hf3 hf4 hf5 hf6 hf7 hf8 hN hA hf11 hT hb hw;rw [ea];clear ea;simp only [Act.put,sA,sB,sC]
       go_simp
       obtain ⟨hf0,hf1,hf2,hf3,hf4,hf5,hf6,hf7,hf8,hN,hA,hf11,hT,hb,hw⟩:=HH_.out;refine hK.out _ _ ?_;exact .mk (.pointer (some ⟨kb,9,none⟩)) p29 p30 p31 p32 p33 p34 p35 p36 p37 p38 p39 v9 v10 x9 (by simp only [Act.put,sA,sB,sC]) (⟨hb.1,fun h=>hb.2 (fun hu=>h (a_o hu))⟩) (fun _=>rfl) (upk hf1 rfl) (upk hf2 rfl) (upk hf3 rfl) (upk hf4 rfl) (upk hf5 rfl) (upk hf6 rfl) (upk hf7 rfl) (upk hf8 rfl) (upk hN rfl) (fun h=>⟨(hA (a_a h (by decide))).1,a_o (hA (a_a h (by decide))).2.1,a_o (hA (a_a h (by decide))).2.2.1,(hA (a_a h (by decide))).2.2.2⟩) (upk hf11 rfl) (fun h=>⟨a_o (hT (a_a h (by decide))).1,(hT (a_a h (by decide))).2⟩)
     refine StepsL.cons (k:=1) rfl (fun listed a1 w1 hI hn hw K hK=>?_) ?_
     ·cases hI with | mk p28 p29 p30 p31 p32 p33 p34 p35 p36 p37 p38 p39 v9 v10 x9 ea hb hf0 hf1 hf2 hf3 hf4 hf5 hf6 hf7 hf8 hN hA hf11 hT =>
       have e_f0:=hf0 (hw 0 (by decide));subst e_f0;have h10:¬ Up listed 10:=fun h=>hn (hA h).2.1
       have hx9:=(hb.2 h10).2;subst hx9;have k9:=(hb.1.v 9 _ rfl).1;have HH_:=N5;clear hf0 hf1 hf2 hf3 hf4 hf5 hf6 hf7 hf8 hN hA hf11 hT hb hw;rw [ea];clear ea;simp only [Act.put,sA,sB,sC]
       go_simp
       obtain ⟨hf0,hf1,hf2,hf3,hf4,hf5,hf6,hf7,hf8,hN,hA,hf11,hT,hb,hw⟩:=HH_.out;refine hK.out _ _ ?_;exact .mk (.pointer (some ⟨kb,9,none⟩)) (.slice fa fn fc) p30 p31 p32 p33 p34 p35 p36 p37 p38 p39 v9 v10 _ (by simp only [Act.put,sA,sB,sC]) (⟨hb.1,fun h=>hb.2 (fun hu=>h (a_o hu))⟩) (fun _=>rfl) (fun _=>rfl) (upk hf2 rfl) (upk hf3 rfl) (upk hf4 rfl) (upk hf5 rfl) (upk hf6 rfl) (upk hf7 rfl) (upk hf8 rfl) (upk hN rfl) (fun h=>⟨(hA (a_a h (by decide))).1,a_o (hA (a_a h (by decide))).2.1,a_o (hA (a_a h (by decide))).2.2.1,(hA (a_a h (by decide))).2.2.2⟩) (upk hf11 rfl) (fun h=>⟨a_o (hT (a_a h (by decide))).1,(hT (a_a h (by decide))).2⟩)
     refine StepsL.cons (k:=2) rfl (fun listed a1 w1 hI hn hw K hK=>?_) ?_
     ·cases hI with | mk p28 p29 p30 p31 p32 p33 p34 p35 p36 p37 p38 p39 v9 v10 x9 ea hb hf0 hf1 hf2 hf3 hf4 hf5 hf6 hf7 hf8 hN hA hf11 hT =>
       have HH_:=N5;clear hf0 hf1 hf2 hf3 hf4 hf5 hf6 hf7 hf8 hN hA hf11 hT hb hw;rw [ea];clear ea;simp only [Act.put,sA,sB,sC]
       go_simp
       obtain ⟨hf0,hf1,hf2,hf3,hf4,hf5,hf6,hf7,hf8,hN,hA,hf11,hT,hb,hw⟩:=HH_.out;refine hK.out _ _ ?_;exact .mk p28 p29 (.pointer (some ⟨w.heap.size,0,none⟩)) p31 p32 p33 p34 p35 p36 p37 p38 p39 v9 v10 x9 (by simp only [Act.put,sA,sB,sC]) (⟨hb.1,fun h=>hb.2 (fun hu=>h (a_o hu))⟩) (upk hf0 rfl) (upk hf1 rfl) (fun _=>rfl) (upk hf3 rfl) (upk hf4 rfl) (upk hf5 rfl) (upk hf6 rfl) (upk hf7 rfl) (upk hf8 rfl) (upk hN rfl) (fun h=>⟨(hA (a_a h (by decide))).1,a_o (hA (a_a h (by decide))).2.1,a_o (hA (a_a h (by decide))).2.2.1,(hA (a_a h (by decide))).2.2.2⟩) (upk hf11 rfl) (fun h=>⟨a_o (hT (a_a h (by decide))).1,(hT (a_a h (by decide))).2⟩)
     refine StepsL.cons (k:=3) rfl (fun listed a1 w1 hI hn hw K hK=>?_) ?_
     ·cases hI with | mk p28 p29 p30 p31 p32 p33 p34 p35 p36 p37 p38 p39 v9 v10 x9 ea hb hf0 hf1 hf2 hf3 hf4 hf5 hf6 hf7 hf8 hN hA hf11 hT =>
       have e_f2:=hf2 (hw 2 (by decide));subst e_f2;have k0:=(hb.1.x 0 _ rfl).1;have HH_:=N5;clear hf0 hf1 hf2 hf3 hf4 hf5 hf6 hf7 hf8 hN hA hf11 hT hb hw;rw [ea];clear ea;simp only [Act.put,sA,sB,sC]
       go_simp
       obtain ⟨hf0,hf1,hf2,hf3,hf4,hf5,hf6,hf7,hf8,hN,hA,hf11,hT,hb,hw⟩:=HH_.out;refine hK.out _ _ ?_;exact .mk p28 p29 (.pointer (some ⟨w.heap.size,0,none⟩)) (.int .i64 t.pc) p32 p33 p34 p35 p36 p37 p38 p39 v9 v10 x9 (by simp only [Act.put,sA,sB,sC]) (⟨hb.1,fun h=>hb.2 (fun hu=>h (a_o hu))⟩) (upk hf0 rfl) (upk hf1 rfl) (fun _=>rfl) (fun _=>rfl) (upk hf4 rfl) (upk hf5 rfl) (upk hf6 rfl) (upk hf7 rfl) (upk hf8 rfl) (upk hN rfl) (fun h=>⟨(hA (a_a h (by decide))).1,a_o (hA (a_a h (by decide))).2.1,a_o (hA (a_a h (by decide))).2.2.1,(hA (a_a h (by decide))).2.2.2⟩) (upk hf11 rfl) (fun h=>⟨a_o (hT (a_a h (by decide))).1,(hT (a_a h (by decide))).2⟩)
     refine StepsL.cons (k:=4) rfl (fun listed a1 w1 hI hn hw K hK=>?_) ?_
     ·cases hI with | mk p28 p29 p30 p31 p32 p33 p34 p35 p36 p37 p38 p39 v9 v10 x9 ea hb hf0 hf1 hf2 hf3 hf4 hf5 hf6 hf7 hf8 hN hA hf11 hT =>
       have e_f3:=hf3 (hw 3 (by decide));subst e_f3;have HH_:=N5;clear hf0 hf1 hf2 hf3 hf4 hf5 hf6 hf7 hf8 hN hA hf11 hT hb hw;rw [ea];clear ea;simp only [Act.put,sA,sB,sC]
       go_simp
       rw [HWR.out];obtain ⟨hf0,hf1,hf2,hf3,hf4,hf5,hf6,hf7,hf8,hN,hA,hf11,hT,hb,hw⟩:=HH_.out;refine hK.out _ _ ?_;exact .mk p28 p29 p30 (.int .i64 t.pc) (.int .i64 (t.pc+1)) p33 p34 p35 p36 p37 p38 p39 v9 v10 x9 (by simp only [Act.put,sA,sB,sC]) (⟨hb.1,fun h=>hb.2 (fun hu=>h (a_o hu))⟩) (upk hf0 rfl) (upk hf1 rfl) (upk hf2 rfl) (fun _=>rfl) (fun _=>rfl) (upk hf5 rfl) (upk hf6 rfl) (upk hf7 rfl) (upk hf8 rfl) (upk hN rfl) (fun h=>⟨(hA (a_a h (by decide))).1,a_o (hA (a_a h (by decide))).2.1,a_o (hA (a_a h (by decide))).2.2.1,(hA (a_a h (by decide))).2.2.2⟩) (upk hf11 rfl) (fun h=>⟨a_o (hT (a_a h (by decide))).1,(hT (a_a h (by decide))).2⟩)
     refine StepsL.cons (k:=5) rfl (fun listed a1 w1 hI hn hw K hK=>?_) ?_
     ·cases hI with | mk p28 p29 p30 p31 p32 p33 p34 p35 p36 p37 p38 p39 v9 v10 x9 ea hb hf0 hf1 hf2 hf3 hf4 hf5 hf6 hf7 hf8 hN hA hf11 hT =>
       have HH_:=N5;clear hf0 hf1 hf2 hf3 hf4 hf5 hf6 hf7 hf8 hN hA hf11 hT hb hw;rw [ea];clear ea;simp only [Act.put,sA,sB,sC]
       go_simp
       obtain ⟨hf0,hf1,hf2,hf3,hf4,hf5,hf6,hf7,hf8,hN,hA,hf11,hT,hb,hw⟩:=HH_.out;refine hK.out _ _ ?_;exact .mk p28 p29 p30 p31 p32 (.pointer (some ⟨w.heap.size,1,none⟩)) p34 p35 p36 p37 p38 p39 v9 v10 x9 (by simp only [Act.put,sA,sB,sC]) (⟨hb.1,fun h=>hb.2 (fun hu=>h (a_o hu))⟩) (upk hf0 rfl) (upk hf1 rfl) (upk hf2 rfl) (upk hf3 rfl) (upk hf4 rfl) (fun _=>rfl) (upk hf6 rfl) (upk hf7 rfl) (upk hf8 rfl) (upk hN rfl) (fun h=>⟨(hA (a_a h (by decide))).1,a_o (hA (a_a h (by decide))).2.1,a_o (hA (a_a h (by decide))).2.2.1,(hA (a_a h (by decide))).2.2.2⟩) (upk hf11 rfl) (fun h=>⟨a_o (hT (a_a h (by decide))).1,(hT (a_a h (by decide))).2⟩)
     refine StepsL.cons (k:=6) rfl (fun listed a1 w1 hI hn hw K hK=>?_) ?_
     ·cases hI with | mk p28 p29 p30 p31 p32 p33 p34 p35 p36 p37 p38 p39 v9 v10 x9 ea hb hf0 hf1 hf2 hf3 hf4 hf5 hf6 hf7 hf8 hN hA hf11 hT =>
       have e_f5:=hf5 (hw 5 (by decide));subst e_f5;have k1:=(hb.1.x 1 _ rfl).1;have k2:=(hb.1.x 2 _ rfl).1;have k3:=(hb.1.x 3 _ rfl).1;have k4:=(hb.1.x 4 _ rfl).1;have k5:=(hb.1.x 5 _ rfl).1;have k6:=(hb.1.x 6 _ rfl).1;have k7:=(hb.1.x 7 _ rfl).1;have k8:=(hb.1.x 8 _ rfl).1;have HH_:=N5;clear hf0 hf1 hf2 hf3 hf4 hf5 hf6 hf7 hf8 hN hA hf11 hT hb hw;rw [ea];clear ea;simp only [Act.put,sA,sB,sC]
       go_simp
       obtain ⟨hf0,hf1,hf2,hf3,hf4,hf5,hf6,hf7,hf8,hN,hA,hf11,hT,hb,hw⟩:=HH_.out;refine hK.out _ _ ?_;exact .mk p28 p29 p30 p31 p32 (.pointer (some ⟨w.heap.size,1,none⟩)) (.agg (rgC t.r).toArray) p35 p36 p37 p38 p39 v9 v10 x9 (by simp only [Act.put,sA,sB,sC]) (⟨hb.1,fun h=>hb.2 (fun hu=>h (a_o hu))⟩) (upk hf0 rfl) (upk hf1 rfl) (upk hf2 rfl) (upk hf3 rfl) (upk hf4 rfl) (fun _=>rfl) (fun _=>rfl) (upk hf7 rfl) (upk hf8 rfl) (upk hN rfl) (fun h=>⟨(hA (a_a h (by decide))).1,a_o (hA (a_a h (by decide))).2.1,a_o (hA (a_a h (by decide))).2.2.1,(hA (a_a h (by decide))).2.2.2⟩) (upk hf11 rfl) (fun h=>⟨a_o (hT (a_a h (by decide))).1,(hT (a_a h (by decide))).2⟩)
     refine StepsL.cons (k:=7) rfl (fun listed a1 w1 hI hn hw K hK=>?_) ?_
     ·cases hI with | mk p28 p29 p30 p31 p32 p33 p34 p35 p36 p37 p38 p39 v9 v10 x9 ea hb hf0 hf1 hf2 hf3 hf4 hf5 hf6 hf7 hf8 hN hA hf11 hT =>
       have e_f6:=hf6 (hw 6 (by decide));subst e_f6;have HH_:=N5;clear hf0 hf1 hf2 hf3 hf4 hf5 hf6 hf7 hf8 hN hA hf11 hT hb hw;rw [ea];clear ea;simp only [Act.put,sA,sB,sC]
       go_simp
       refine (q_z t.r _).mono ?_;rintro e w2 ⟨rfl,hb2⟩;obtain ⟨hf0,hf1,hf2,hf3,hf4,hf5,hf6,hf7,hf8,hN,hA,hf11,hT,hb,hw⟩:=HH_.out;refine hK.out _ _ ?_;exact .mk p28 p29 p30 p31 p32 p33 (.agg (rgC t.r).toArray) (.agg #[.int .i64 (t.r 4),.int .i64 (t.r 5),.int .i64 (t.r 6),.int .i64 (t.r 7)]) p36 p37 p38 p39 v9 v10 x9 (by simp only [Act.put,sA,sB,sC]) (⟨k_c hb2 hb.1,fun h=>⟨a_8 (hb.2 (fun hu=>h (a_o hu))).1 hb2,(hb.2 (fun hu=>h (a_o hu))).2⟩⟩) (upk hf0 rfl) (upk hf1 rfl) (upk hf2 rfl) (upk hf3 rfl) (upk hf4 rfl) (upk hf5 rfl) (fun _=>rfl) (fun _=>rfl) (upk hf8 rfl) (fun h=>⟨(hN (a_a h (by decide))).1,(hN (a_a h (by decide))).2.1,a_i hb2 (hN (a_a h (by decide))).2.2⟩) (fun h=>⟨(hA (a_a h (by decide))).1,a_o (hA (a_a h (by decide))).2.1,a_o (hA (a_a h (by decide))).2.2.1,a_8 (hA (a_a h (by decide))).2.2.2.1 hb2,(hA (a_a h (by decide))).2.2.2.2⟩) (upk hf11 rfl) (fun h=>⟨a_o (hT (a_a h (by decide))).1,(hT (a_a h (by decide))).2⟩)
     refine StepsL.cons (k:=8) rfl (fun listed a1 w1 hI hn hw K hK=>?_) ?_
     ·cases hI with | mk p28 p29 p30 p31 p32 p33 p34 p35 p36 p37 p38 p39 v9 v10 x9 ea hb hf0 hf1 hf2 hf3 hf4 hf5 hf6 hf7 hf8 hN hA hf11 hT =>
       have e_f4:=hf4 (hw 4 (by decide));have e_f7:=hf7 (hw 7 (by decide));subst e_f4 e_f7;have HH_:=N5;clear hf0 hf1 hf2 hf3 hf4 hf5 hf6 hf7 hf8 hN hA hf11 hT hb hw;rw [ea];clear ea;simp only [Act.put,sA,sB,sC]
       go_simp
       obtain ⟨hf0,hf1,hf2,hf3,hf4,hf5,hf6,hf7,hf8,hN,hA,hf11,hT,hb,hw⟩:=HH_.out;refine hK.out _ _ ?_;exact .mk p28 p29 p30 p31 (.int .i64 (t.pc+1)) p33 p34 (.agg #[.int .i64 (t.r 4),.int .i64 (t.r 5),.int .i64 (t.r 6),.int .i64 (t.r 7)]) (.agg #[.int .i64 (t.pc+1),.int .i64 (t.r 4),.int .i64 (t.r 5),.int .i64 (t.r 6),.int .i64 (t.r 7)]) p37 p38 p39 v9 v10 x9 (by simp only [Act.put,sA,sB,sC]) (⟨hb.1,fun h=>hb.2 (fun hu=>h (a_o hu))⟩) (upk hf0 rfl) (upk hf1 rfl) (upk hf2 rfl) (upk hf3 rfl) (fun _=>rfl) (upk hf5 rfl) (upk hf6 rfl) (fun _=>rfl) (fun _=>rfl) (upk hN rfl) (fun h=>⟨(hA (a_a h (by decide))).1,a_o (hA (a_a h (by decide))).2.1,a_o (hA (a_a h (by decide))).2.2.1,(hA (a_a h (by decide))).2.2.2⟩) (upk hf11 rfl) (fun h=>⟨a_o (hT (a_a h (by decide))).1,(hT (a_a h (by decide))).2⟩)
     refine StepsL.cons (k:=9) rfl (fun listed a1 w1 hI hn hw K hK=>?_) ?_
     ·cases hI with | mk p28 p29 p30 p31 p32 p33 p34 p35 p36 p37 p38 p39 v9 v10 x9 ea hb hf0 hf1 hf2 hf3 hf4 hf5 hf6 hf7 hf8 hN hA hf11 hT =>
       have e_f8:=hf8 (hw 8 (by decide));subst e_f8;have HH_:=N5;clear hf0 hf1 hf2 hf3 hf4 hf5 hf6 hf7 hf8 hN hA hf11 hT hb hw;rw [ea];clear ea;simp only [Act.put,sA,sB,sC]
       go_simp
       obtain ⟨hf0,hf1,hf2,hf3,hf4,hf5,hf6,hf7,hf8,hN,hA,hf11,hT,hb,hw⟩:=HH_.out;refine hK.out _ _ ?_;exact .mk p28 p29 p30 p31 p32 p33 p34 p35 (.agg #[.int .i64 (t.pc+1),.int .i64 (t.r 4),.int .i64 (t.r 5),.int .i64 (t.r 6),.int .i64 (t.r 7)]) (.slice (some ⟨w1.heap.size,0,none⟩) 1 1) p38 p39 w1.heap.size v10 x9 (by simp only [Act.put,sA,sB,sC]) (⟨s_h _ hb.1,fun h=>⟨(hb.2 (fun hu=>h (a_o hu))).1.alloc _,(hb.2 (fun hu=>h (a_o hu))).2⟩⟩) (upk hf0 rfl) (upk hf1 rfl) (upk hf2 rfl) (upk hf3 rfl) (upk hf4 rfl) (upk hf5 rfl) (upk hf6 rfl) (upk hf7 rfl) (fun _=>rfl) (fun _=>⟨rfl,a_P hb.1.v (by simp),a_e [.int .i64 (t.pc+1),.int .i64 (t.r 4),.int .i64 (t.r 5),.int .i64 (t.r 6),.int .i64 (t.r 7)] _ rfl⟩) (fun h=>absurd (hA (a_a h (by decide))).2.2.1 hn) (upk hf11 rfl) (fun h=>⟨a_o (hT (a_a h (by decide))).1,(hT (a_a h (by decide))).2⟩)
     refine StepsL.cons (k:=10) rfl (fun listed a1 w1 hI hn hw K hK=>?_) ?_
     ·cases hI with | mk p28 p29 p30 p31 p32 p33 p34 p35 p36 p37 p38 p39 v9 v10 x9 ea hb hf0 hf1 hf2 hf3 hf4 hf5 hf6 hf7 hf8 hN hA hf11 hT =>
       have e_f1:=hf1 (hw 1 (by decide));obtain ⟨e_N,n1,n2⟩:=hN (hw 9 (by decide));subst e_f1;subst e_N;obtain ⟨ho,hx9⟩:=hb.2 hn;rw [ea];refine e_Y rfl (.tmp 29) (.tmp 37) 44 rfl F0 105 i0 (.agg #[.int .i64 0,.int .i64 0,.int .i64 0,.int .i64 0,.int .i64 0]) 5 40 Tryz.underlying44 HI.out.1 HI.out.2.1 HI.out.2.2.1 HI.out.2.2.2 rfl (by decide) (.slice fa fn fc) fn (t.fs.flatMap d_8) (by simp [Act.eval,Act.put]) ho ⟨v9,0,none⟩ 1 1 [.int .i64 (t.pc+1),.int .i64 (t.r 4),.int .i64 (t.r 5),.int .i64 (t.r 6),.int .i64 (t.r 7)] (by simp [Act.eval,Act.put]) rfl (fun j u hu=>by rw [Gen.add_plain,Nat.zero_add];exact (n2 j u hu).1) (by intro u hu;simp at hu;rcases hu with rfl | rfl | rfl | rfl | rfl <;> rfl) (by unfold maxLen;omega) (by omega) (Nat.le_trans HFK.out (Nat.le_of_lt (a_P hb.1.v (by simp)))) ?_;intro v' w2 r1 r2 r3
       have hvk:v'.ownBlock≠some kb:=fun e=>by
        rcases r3 with r3 | r3
        ·have:=HC.out.ho kb (r3.symm.trans e);omega
        ·have h9:=a_P hb.1.v (by simp);rw [e] at r3
         injection r3 with r3
         omega
       have hvn:(Value.slice fa fn fc).ownBlock≠some v9:=fun e=>by have:=HC.out.ho v9 e;omega
       refine hK.out _ _ ?_;exact .mk p28 (.slice fa fn fc) p30 p31 p32 p33 p34 p35 p36 (.slice (some ⟨v9,0,none⟩) 1 1) v' p39 v9 v' x9 (by simp only [Act.put,sA,sB,sC]) (⟨k_d HC.out r2 hb.1,fun h=>absurd d_U h⟩) (upk hf0 rfl) (fun _=>rfl) (upk hf2 rfl) (upk hf3 rfl) (upk hf4 rfl) (upk hf5 rfl) (upk hf6 rfl) (upk hf7 rfl) (upk hf8 rfl) (fun _=>⟨rfl,n1,b_A r2 hvn n2⟩) (fun _=>⟨rfl,a_o (hw 1 (by decide)),a_o (hw 9 (by decide)),r1,hvk⟩) (upk hf11 rfl) (fun h=>absurd (hT (a_a h (by decide))).1 hn)
     refine StepsL.cons (k:=11) rfl (fun listed a1 w1 hI hn hw K hK=>?_) ?_
     ·cases hI with | mk p28 p29 p30 p31 p32 p33 p34 p35 p36 p37 p38 p39 v9 v10 x9 ea hb hf0 hf1 hf2 hf3 hf4 hf5 hf6 hf7 hf8 hN hA hf11 hT =>
       have HH_:=N5;clear hf0 hf1 hf2 hf3 hf4 hf5 hf6 hf7 hf8 hN hA hf11 hT hb hw;rw [ea];clear ea;simp only [Act.put,sA,sB,sC]
       go_simp
       obtain ⟨hf0,hf1,hf2,hf3,hf4,hf5,hf6,hf7,hf8,hN,hA,hf11,hT,hb,hw⟩:=HH_.out;refine hK.out _ _ ?_;exact .mk p28 p29 p30 p31 p32 p33 p34 p35 p36 p37 p38 (.pointer (some ⟨kb,9,none⟩)) v9 v10 x9 (by simp only [Act.put,sA,sB,sC]) (⟨hb.1,fun h=>hb.2 (fun hu=>h (a_o hu))⟩) (upk hf0 rfl) (upk hf1 rfl) (upk hf2 rfl) (upk hf3 rfl) (upk hf4 rfl) (upk hf5 rfl) (upk hf6 rfl) (upk hf7 rfl) (upk hf8 rfl) (upk hN rfl) (fun h=>⟨(hA (a_a h (by decide))).1,a_o (hA (a_a h (by decide))).2.1,a_o (hA (a_a h (by decide))).2.2.1,(hA (a_a h (by decide))).2.2.2⟩) (fun _=>rfl) (fun h=>⟨a_o (hT (a_a h (by decide))).1,(hT (a_a h (by decide))).2⟩)
     refine StepsL.cons (k:=12) rfl (fun listed a1 w1 hI hn hw K hK=>?_) ?_
     ·cases hI with | mk p28 p29 p30 p31 p32 p33 p34 p35 p36 p37 p38 p39 v9 v10 x9 ea hb hf0 hf1 hf2 hf3 hf4 hf5 hf6 hf7 hf8 hN hA hf11 hT =>
       have e_f11:=hf11 (hw 11 (by decide));subst e_f11;obtain ⟨e_A,a1',a2',a3',a4'⟩:=hA (hw 10 (by decide));subst e_A;obtain ⟨fa3,fc3,e10⟩:=c_D a3';subst e10;obtain ⟨y9,g9⟩:=hb.1.v 9 _ rfl;have HH_:=N5;clear hf0 hf1 hf2 hf3 hf4 hf5 hf6 hf7 hf8 hN hA hf11 hT hb hw;rw [ea];clear ea;simp only [Act.put,sA,sB,sC]
       go_simp
       obtain ⟨hf0,hf1,hf2,hf3,hf4,hf5,hf6,hf7,hf8,hN,hA,hf11,hT,hb,hw⟩:=HH_.out;refine hK.out _ _ ?_;exact .mk p28 p29 p30 p31 p32 p33 p34 p35 p36 p37 (.slice fa3 (fn+1) fc3) (.pointer (some ⟨kb,9,none⟩)) v9 (.slice fa3 (fn+1) fc3) (.slice fa3 (fn+1) fc3) (by simp only [Act.put,sA,sB,sC]) (⟨n_P HC.out _ hb.1,fun h=>absurd (a_o (hw 10 (by decide))) h⟩) (upk hf0 rfl) (upk hf1 rfl) (upk hf2 rfl) (upk hf3 rfl) (upk hf4 rfl) (upk hf5 rfl) (upk hf6 rfl) (upk hf7 rfl) (upk hf8 rfl) (fun h=>⟨(hN (a_a h (by decide))).1,(hN (a_a h (by decide))).2.1,a_m (hN (a_a h (by decide))).2.2 (by have:=(hN (a_a h (by decide))).2.1;omega) _⟩) (fun _=>⟨rfl,a_o a1',a_o a2',d_P a3' ⟨kb,9,none⟩ a4' _,a4'⟩) (fun _=>rfl) (fun _=>⟨a_o (hw 10 (by decide)),rfl⟩)
     exact StepsL.nil
    ·intro listed a1 w1 hI hu
     cases hI with | mk p28 p29 p30 p31 p32 p33 p34 p35 p36 p37 p38 p39 v9 v10 x9 ea hb hf0 hf1 hf2 hf3 hf4 hf5 hf6 hf7 hf8 hN hA hf11 hT =>
      have e12:=(hT (hu 12)).2;obtain ⟨-,-,-,o1,o2⟩:=hA (hu 10);clear hf0 hf1 hf2 hf3 hf4 hf5 hf6 hf7 hf8 hN hA hf11 hT;subst e12;obtain ⟨fa3,fc3,e3⟩:=c_D o1;subst e3;have hcb:=hb.1;clear hb;have hcg:=HC.out.hk;obtain ⟨fr,hfr⟩:∃ fr:Fr,fr=(t.pc+1,t.r 4,t.r 5,t.r 6,t.r 7):=⟨_,rfl⟩;have hcs:=N89;rw [hcs] at o1;have hlen:(t.fs++[fr]).length=fn+1:=by rw [List.length_append,HFN.out];rfl
      have HT:Hid (f_d t tg=⟨tg,t.r,t.fs++[fr],t.st,t.ft,t.lf⟩):=by rw [hfr];exact (show f_d t tg=⟨tg,t.r,t.fs++[(t.pc+1,t.r 4,t.r 5,t.r 6,t.r 7)],t.st,t.ft,t.lf⟩ by rw [f_d,if_pos HE.out])
      obtain ⟨Y1,hY1⟩:=nm (w1.setCell ⟨kb,0,none⟩ (.int .i64 tg));have K1:a_p Y1 kb [.int .i64 tg,.int .i64 (t.r 0),.int .i64 (t.r 1),.int .i64 (t.r 2),.int .i64 (t.r 3),.int .i64 (t.r 4),.int .i64 (t.r 5),.int .i64 (t.r 6),.int .i64 (t.r 7),.slice fa3 (fn+1) fc3,.int .i64 t.st,.int .i64 t.ft,.slice la ln lc]:=by rw [hY1];exact a_A hcb.v 0 (by simp) _
      have R1:a_p Y1 (w.heap.size+1) thN:=by rw [hY1];exact a_m hcb.r (by omega) _
      have B1:Below w.heap.size w Y1:=by rw [hY1];exact hcb.b.setCell (p:=⟨kb,0,none⟩) (by show _≤kb;omega) _
      have O1:Y1.ownsRow F0 105 5 (.slice fa3 (fn+1) fc3) (fn+1) ((t.fs++[fr]).flatMap d_8):=by rw [hY1];exact d_P o1 ⟨kb,0,none⟩ o2 _
      have L1:Vs repInt (fun b=>w.heap.size+2≤b) Y1 la ln t.lf:=by rw [hY1];exact b_e (fun b hb=>hb.1) (a_z (a_T _ _ _ (fun b hb=>hb.2.1)) hcb.l)
      obtain ⟨Y2,hY2⟩:=nm (d_o Y1 (w.heap.size+1) 0 [.int .i64 tg,.int .i64 (t.r 0),.int .i64 (t.r 1),.int .i64 (t.r 2),.int .i64 (t.r 3),.int .i64 (t.r 4),.int .i64 (t.r 5),.int .i64 (t.r 6),.int .i64 (t.r 7),.slice fa3 (fn+1) fc3,.int .i64 t.st,.int .i64 t.ft,.slice la ln lc]);have R2:a_p Y2 (w.heap.size+1) [.int .i64 tg,.int .i64 (t.r 0),.int .i64 (t.r 1),.int .i64 (t.r 2),.int .i64 (t.r 3),.int .i64 (t.r 4),.int .i64 (t.r 5),.int .i64 (t.r 6),.int .i64 (t.r 7),.slice fa3 (fn+1) fc3,.int .i64 t.st,.int .i64 t.ft,.slice la ln lc]:=by rw [hY2];exact a_q R1 rfl
      have O2:Y2.ownsRow F0 105 5 (.slice fa3 (fn+1) fc3) (fn+1) ((t.fs++[fr]).flatMap d_8):=by
       rw [hY2];exact a_Z (b_Z (p:=⟨w.heap.size+1,0,none⟩) O1 (.inr (by show w.heap.size+1 < _;omega))) O1
      have L2:Vs repInt (fun b=>w.heap.size≤b) Y2 la ln t.lf:=by rw [hY2];exact b_e (fun b hb=>by omega) (a_z (a_t (fun b hb=>by omega)) L1)
      have B2:Below w.heap.size w Y2:=by rw [hY2];exact a_h (by omega) B1
      have S2:=e_v (r:=repFr) O2 (f_G (t.fs++[fr])) (Q:=fun b=>w.heap.size≤b) (fun b hb _=>by omega);obtain ⟨fa4,fc4,e4,s1,s2,s3,s4⟩:=S2
      injection e4 with e4 _ e5
      subst e4 e5;have HFIN:=hid (show a_p Y2 (w.heap.size+1) [.int .i64 tg,.int .i64 (t.r 0),.int .i64 (t.r 1),.int .i64 (t.r 2),.int .i64 (t.r 3),.int .i64 (t.r 4),.int .i64 (t.r 5),.int .i64 (t.r 6),.int .i64 (t.r 7),.slice fa3 (fn+1) fc3,.int .i64 t.st,.int .i64 t.ft,.slice la ln lc]∧ThQ (fun b=>w.heap.size≤b) Y2 fa3 (fn+1) fc3 la ln lc ⟨tg,t.r,t.fs++[fr],t.st,t.ft,t.lf⟩∧Below w.heap.size w Y2 from ⟨R2,⟨⟨s1,s2,s3⟩,s4,HLC.out,L2⟩,B2⟩);have ⟨HLEN,HY1,HY2,HR1,HK1⟩:=hh5 hlen hY1 hY2 R1 K1;obtain ⟨z0,f0⟩:=hcb.v 0 _ rfl;clear o1 o2 hcb hcg hfr hcs hlen hY1 K1 R1 B1 O1 L1 hY2 R2 O2 L2 B2 s1 s2 s3 s4;rw [ea];clear ea;simp only [Act.put,sA,sB,sC]
      go_upto_region 8 with fail
      rw [←HY1.out];clear z0 f0;have k0:=(HK1.out 0 _ rfl).1;have k1:=(HK1.out 1 _ rfl).1;have k2:=(HK1.out 2 _ rfl).1;have k3:=(HK1.out 3 _ rfl).1;have k4:=(HK1.out 4 _ rfl).1;have k5:=(HK1.out 5 _ rfl).1;have k6:=(HK1.out 6 _ rfl).1;have k7:=(HK1.out 7 _ rfl).1;have k8:=(HK1.out 8 _ rfl).1;have k9:=(HK1.out 9 _ rfl).1;have k10:=(HK1.out 10 _ rfl).1;have k11:=(HK1.out 11 _ rfl).1;have k12:=(HK1.out 12 _ rfl).1;obtain ⟨y0,g0⟩:=HR1.out 0 _ rfl;obtain ⟨y1,g1⟩:=HR1.out 1 _ rfl;obtain ⟨y2,g2⟩:=HR1.out 2 _ rfl;obtain ⟨y3,g3⟩:=HR1.out 3 _ rfl;obtain ⟨y4,g4⟩:=HR1.out 4 _ rfl;obtain ⟨y5,g5⟩:=HR1.out 5 _ rfl;obtain ⟨y6,g6⟩:=HR1.out 6 _ rfl;obtain ⟨y7,g7⟩:=HR1.out 7 _ rfl;obtain ⟨y8,g8⟩:=HR1.out 8 _ rfl;obtain ⟨y9,g9⟩:=HR1.out 9 _ rfl;obtain ⟨y10,g10⟩:=HR1.out 10 _ rfl;obtain ⟨y11,g11⟩:=HR1.out 11 _ rfl;obtain ⟨y12,g12⟩:=HR1.out 12 _ rfl
      go_wp2
      have hf:=HFIN.out;rw [HY2.out] at hf;have hL:=N240;refine a_l ⟨w.heap.size+1,0,none⟩ rfl rfl rfl hL ?_;refine i_a HT.out HE.out ?_;exact e_c (t:=⟨tg,t.r,t.fs++[fr],t.st,t.ft,t.lf⟩) HLEN.out HLN.out hf.2.1 hf.2.2
end Go.Proofs.YtogdpojnbgeknaaGreatDoor
