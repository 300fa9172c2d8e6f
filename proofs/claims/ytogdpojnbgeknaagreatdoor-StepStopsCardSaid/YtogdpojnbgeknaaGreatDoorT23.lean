import Derived.Test.YtogdpojnbgeknaaGreatDoorT22
import Derived.Test.YtogdpojnbgeknaaGreatDoorT6
import Derived.Test.YtogdpojnbgeknaaGreatDoorT14
import Derived.Test.YtogdpojnbgeknaaGreatDoorT2
import Derived.Test.YtogdpojnbgeknaaGreatDoorT0
import Derived.Test.YtogdpojnbgeknaaGreatDoorT21
import Derived.Laws.AppendOwnNone
import Derived.Test.YtogdpojnbgeknaaGreatDoorT16
set_option maxRecDepth 100000
set_option maxHeartbeats 16000000
namespace Go.Proofs.YtogdpojnbgeknaaGreatDoor
open Go.ChangeShapes Go.WideShapes Go.ChangeAt Go.RowKit
open Gen
open Lib (hid)
theorem i_M (L:WoL) (X:Wo) (w:World) (R:RWo Any w L X) (G:Glob w) :
  Calls Tryz.prog 15 #[woV L X.D] w (b_l (b_i X) w):=by
 obtain ⟨D,hD⟩:=mn (X.D);have HD:=hid hD;rw [hD];obtain ⟨W,hW⟩:=nm (w.alloc (Obj.cells (woC L D).toArray 33));have HX:=N159;have HB:=N3;have ⟨HW,HR⟩:=hh2 hW R;have HG:=hid (G.B HB.out);have HTN:=N187;have HBN:=hid (show X.bs.length=L.bs.n from R.bs.1);clear hW hD R G;unfold woV
 go_enter Tryz.func15,Tryz.ntmps15
 go_upto_region 1 with fail
 rw [←HW.out];obtain ⟨x0,-⟩:=HX.out 0 _ rfl;have h0:=g_o L.co.a L.co.n L.co.c X.code W (b_e (fun _ _=>trivial) (b_G HB.out HR.out).co) (by have h:=HR.out.cco;unfold Sp.ok Cap at h;omega) HG.out
 cases hrc:c_a X.code with
 | false =>
  rw [hrc] at h0;have HC:=hid h0;have HY:=hid (show b_i X=false from e_V (.inl hrc));clear h0 hrc
  go_wp2_with fail
  refine HC.out.mono ?_;clear HC x0;rintro e1 w1 ⟨rfl,hb1⟩;have HB1:=hid (a_b HB.out hb1);clear hb1
  go_wp2
  go_ret
  exact a_k HY.out HB1.out
 | true =>
  rw [hrc] at h0;have ⟨HC,HRC⟩:=hh2 h0 hrc;clear h0 hrc
  go_wp2_with fail
  refine HC.out.mono ?_;clear HC x0;rintro e1 w1 ⟨rfl,hb1⟩;have HX1:=hid (a_i hb1 HX.out);have HB1:=hid (a_b HB.out hb1);have HR1:=hid (b_G HB1.out HR.out);clear hb1;obtain ⟨x1,-⟩:=HX1.out 1 _ rfl;obtain ⟨x2,-⟩:=HX1.out 2 _ rfl;obtain ⟨x3,-⟩:=HX1.out 3 _ rfl;obtain ⟨x4,-⟩:=HX1.out 4 _ rfl;obtain ⟨x5,-⟩:=HX1.out 5 _ rfl;have h0:=i_O L.ws.a L.ts.a L.bs.a L.ws.n L.ws.c L.ts.n L.ts.c L.bs.n L.bs.c X.ws X.ts D X.bs w1 HR1.out.ws.sl HR1.out.ts.sl HR1.out.bs.bl
  cases hm:d_O X.ws X.ts D X.bs with
  | false =>
   rw [hm] at h0;have HC:=hid h0;have HY:=hid (show b_i X=false from e_V (.inr (.inl (by rw [HD.out];exact hm))));clear h0 hm
   go_wp2_with fail
   refine HC.out.mono ?_;clear HC x1 x2 x3 x4 x5;rintro e2 w2 ⟨rfl,hb2⟩;have HB2:=hid (a_b HB1.out hb2);clear hb2
   go_wp2
   go_ret
   exact a_k HY.out HB2.out
  | true =>
   rw [hm] at h0;have HC:=hid h0;have HM:=hid (show d_O X.ws X.ts X.D X.bs=true by rw [HD.out];exact hm);clear h0 hm
   go_wp2_with fail
   refine HC.out.mono ?_;clear HC x1 x2 x3 x4 x5;rintro e2 w2 ⟨rfl,hb2⟩;have HX2:=hid (a_i hb2 HX1.out);have HB2:=hid (a_b HB1.out hb2);clear hb2;obtain ⟨x4,-⟩:=HX2.out 4 _ rfl;obtain ⟨x5,-⟩:=HX2.out 5 _ rfl
   by_cases hl:L.th.n=L.bs.n
   ·have HBL:=hid hl;have hne:((L.th.n:Int) != (L.bs.n:Int))=false:=by simp [hl]
    clear hl;obtain ⟨b0,o0,t0,a0,c0,d0,e0,hta,-,-,-,-⟩:=d_b HR1.out.th (k:=0) (by have:=(a_X HM.out).2.1;have:=HBN.out;have:=HBL.out;omega);have HTA:=hid hta;rw [hta] at x5;obtain ⟨n,hn⟩:=mn (L.th.n);have HNL:=hid hn;rw [hn] at x5 hne;clear hta;clear hn
    go_wp2_with fail
    clear x4 x5 hne
    go_loopw [28] (fun i wr=>∃ k:Nat,k≤n∧i=.int .i64 k∧Hid (p_T X.th n k)∧Hid (Below w2.heap.size w2 wr)) (fun i _=>n - (intOf i).toNat)
    case atStart=>exact ⟨0,by omega,rfl,fun i t hi=>by omega,Below.refl _ _⟩
    case round =>
     obtain ⟨k,hk,rfl,ho,hb⟩:=hrel;have HB3:=hid (a_b HB2.out hb.out);have HX3:=hid (a_i hb.out HX2.out);have HR3:=hid (b_G HB3.out HR.out)
     by_cases hlt:k < n
     ·obtain ⟨tb,tq,t,ta,tc,qa,qc,htl,htt,-,T,hr⟩:=d_b HR3.out.th (k:=k) (by have:=HNL.out;omega);obtain ⟨x5,-⟩:=HX3.out 5 _ rfl;rw [HTA.out] at htl
      cases htl
      rw [HTA.out,HNL.out] at x5;obtain ⟨tn,htn⟩:=mn (t.fs.length);obtain ⟨tm,htm⟩:=mn (t.lf.length);rw [htn,htm] at T hr;have HRA:=hid (show wr.rangeAt b0 (o0+k*13) (thC t ta tn tc qa tm qc) from hr);have ⟨HTT,HTM,HT⟩:=hh3 htt htm T;have hsz:=hb.out.size;have HSZ:=hid (show w.heap.size < wr.heap.size from a_P HX3.out (by simp));obtain ⟨wo,hwo⟩:=nm (wr);subst hwo;have i1:(0:Int)≤k:=by omega
      have i2:(k:Int) < n:=by omega
      clear htt T hr htn htm
      go_upto_region 6 with (first | (refine wpList_load_mid rfl 46 _ rfl b0 (o0+k*13) rfl (thC t ta tn tc qa tm qc) _ HRA.out Tryz.underlying46 rfl (by kernel_rfl) ?_) | (refine a_c rfl 46 _ _ rfl wo.heap.size (thC t ta tn tc qa tm qc).toArray rfl rfl _ (a_e thN wo.heap.size rfl) rfl (by kernel_rfl) (a_K _ _ _ _ _ _ _) ?_;intro V HV))
      have HT2:=hid (show a_p V wo.heap.size (thC t ta tn tc qa tm qc) by rw [HV.out];exact a_q (a_e thN _ rfl) rfl);have HX4:=hid (show a_p V w.heap.size (woC L D) by rw [HV.out];exact a_j (by have:=HSZ.out;omega) (a_s _ HX3.out));have HB4:=hid (show Below w2.heap.size w2 V by rw [HV.out];exact a_h hsz (hb.out.alloc hsz _))
      have HTV:=hid (show ThQ Any V ta tn tc qa tm qc t from by
       have hk:Kept (fun b=>b < wo.heap.size) wo V:=by rw [HV.out];exact a_6 (e_u _ _) (a_t (fun b hb=>by omega))
       exact b_y (fun _ _=>trivial) (a_w hk (b_y (fun _ h=>h.2) (r_j HT.out))))
      clear HV HRA hsz x5 i1 i2;have h0:=d_d t ta qa tn tc tm qc V HTV.out.f
      cases hrt:a_1 t with
      | false =>
       rw [hrt] at h0;have HC:=hid h0;have HY:=hid (show b_i X=false from e_V (.inr (.inr (.inr ⟨t,List.mem_of_getElem? HTT.out,by simp [e_Q,hrt]⟩))));clear h0 hrt
       go_wp2_with (refine wpList_load_mid rfl 46 _ rfl wo.heap.size 0 rfl (thC t ta tn tc qa tm qc) _ (a_f HT2.out) Tryz.underlying46 rfl (by kernel_rfl) ?_)
       refine HC.out.mono ?_;clear HC;rintro e5 w5 ⟨rfl,hb5⟩;have HB5:=hid (a_b HB2.out (a_b HB4.out hb5));clear hb5
       go_wp2
       go_ret
       exact a_k HY.out HB5.out
      | true =>
       rw [hrt] at h0;have ⟨HC,HRT⟩:=hh2 h0 hrt;clear h0 hrt
       go_wp2_with (refine wpList_load_mid rfl 46 _ rfl wo.heap.size 0 rfl (thC t ta tn tc qa tm qc) _ (a_f HT2.out) Tryz.underlying46 rfl (by kernel_rfl) ?_)
       refine HC.out.mono ?_;clear HC;rintro e5 w5 ⟨rfl,hb5⟩;have HB5:=hid (a_b HB4.out hb5);have HB5w:=hid (a_b HB2.out HB5.out);obtain ⟨y12,-⟩:=a_i hb5 HT2.out 12 _ rfl;obtain ⟨x5,-⟩:=a_i hb5 HX4.out 5 _ rfl;rw [HNL.out] at x5;have hwk:wrap64 ((k:Int)+1)=k+1:=IntWalk.wrap64_in _ (by have:=(a_X HM.out).2.1;have:=HBN.out;have:=HBL.out;have:=HNL.out;omega);clear hb5
       by_cases h0:tm=0
       ·have HO:=hid (h_3 ho.out HTT.out (by simp only [e_Q,HRT.out,Bool.true_and,decide_eq_true_eq];left;rw [HTM.out];exact h0));subst h0;exact J95
       ·have h1:(0:Int) < tm:=by omega
        by_cases h2:tm=n
        ·have HO:=hid (h_3 ho.out HTT.out (by simp only [e_Q,HRT.out,Bool.true_and,decide_eq_true_eq];right;rw [HTM.out];exact h2));subst h2;exact J95
        ·have h3:((tm:Int) != (n:Int))=true:=by simp;omega
         have HY:=hid (show b_i X=false from e_V (.inr (.inr (.inr ⟨t,List.mem_of_getElem? HTT.out,by
          simp only [e_Q,HRT.out,Bool.true_and,decide_eq_false_iff_not];rw [HTM.out,HTN.out,HNL.out];omega⟩))))
         go_wp2_with fail
         go_ret
         exact a_k HY.out HB5w.out
     ·obtain rfl:k=n:=by omega
      have HY:=hid (show b_i X=true from m_6 HRC.out HM.out (by have:=HTN.out;have:=HBN.out;have:=HBL.out;omega) (HTN.out.trans HNL.out) ho.out)
      go_wp2
      go_ret
      exact a_k HY.out HB3.out
   ·have hne:((L.th.n:Int) != (L.bs.n:Int))=true:=by simp;omega
    have HY:=hid (show b_i X=false from e_V (.inr (.inr (.inl (by rw [HTN.out,HBN.out];exact hl)))));clear hl
    go_wp2_with fail
    go_ret
    exact a_k HY.out HB2.out
end Go.Proofs.YtogdpojnbgeknaaGreatDoor
namespace Go.Proofs.YtogdpojnbgeknaaGreatDoor
open Go.ChangeShapes Go.WideShapes Go.ChangeAt Go.RowKit
open Gen
theorem o_o:(Tryz.prog.info? 101).map (fun i=>(i.zero,i.size,i.bytes))=some (some (.agg #[.int .i64 0,.int .i64 0,.int .i64 0,.int .i64 0,.int .i64 0,.int .i64 0]),6,48):=by kernel_rfl
theorem l_G {Q:Nat→Prop} {w:World} (ys:List Ev):d_s repEv Q w (ys.flatMap j_j) ys:=e_I (k:=6) (f:=j_j) (hk:=by decide) (hf:=fun _=>rfl) ys
theorem s_C (ys:List Ev):(ys.flatMap j_j).length=ys.length*6:=b_f (l_G (Q:=Any) (w:=default) ys)
theorem s_K (ys:List Ev):∀ u∈ys.flatMap j_j,u.oneCell'=true:=by
 intro u hu;obtain ⟨y,_,h⟩:=List.mem_flatMap.1 hu;simp [j_j] at h;rcases h with rfl | rfl | rfl | rfl | rfl | rfl <;> rfl
theorem n_k {Q:Nat→Prop} {w:World} {a:Option Addr} {n:Nat} {ys:List Ev} (h:Vs repEv Q w a n ys):∀ b,a=some b→∀ j u,(ys.flatMap j_j)[j]?=some u→w.cell? (b.add j)=some u:=
 j_Q (k:=6) (f:=j_j) (hk:=by decide) (hf:=fun _=>rfl) h
theorem g_l {ops:Array Oper} {rest:List Oper} {o:Oper} {a:Act} {Q:Exit→Act→World→Prop} {w:World} (hgd:o.guard=none) (s x:Operand)
  (ho:o.op=.call { callee:=.builtin .append,args:=#[s,x],argTypes:=#[31,31] }) (base:Nat) (v:Value) (n:Nat) (xs:List Value) (hs:a.eval s=v) (hown:w.ownsRow base 101 6 v n xs)
  (fa:Option Addr) (m c:Nat) (ys:List Ev) (hx:a.eval x=.slice fa m c) (V:Vs repEv Any w fa m ys) (C:Cap fa m c) (hn:n+m≤1000000) (hbase:base≤w.heap.size)
  (h:∀ v' w',w'.ownsRow base 101 6 v' (n+m) (xs++ys.flatMap j_j)→w.grownBy w' v.ownBlock→wpList Tryz.prog ops Q rest (a.put o.dst v') w'):wpList Tryz.prog ops Q (o::rest) a w:=by
 obtain ⟨i0,hi,hz0,hz1,hz2⟩:=info_parts o_o
 cases fa with
 | none =>
  obtain rfl:c=0:=C.2.2 rfl;obtain rfl:m=0:=by have:=C.1;omega
  obtain rfl:ys=[]:=List.eq_nil_of_length_eq_zero V.1;refine wpList_append_own_none hgd s x 31 ho base 101 i0 6 Tryz.underlying31 hi v n xs hs hown hx (h v w ?_ (World.grownBy.refl _ _))
  simpa using hown
 | some p =>
  exact wpList_append_own w hgd s x 31 ho base 101 i0 (.agg #[.int .i64 0,.int .i64 0,.int .i64 0,.int .i64 0,.int .i64 0,.int .i64 0]) 6 48 Tryz.underlying31 hi hz0 hz1 hz2 rfl (by decide) v n xs hs hown p m c (ys.flatMap j_j) hx (by rw [s_C,V.1]) (n_k V p rfl) (s_K _) (by unfold maxLen;omega) (by omega) hbase (fun v' w' h1 h2 _=>h v' w' h1 h2)
def WoL.setEv (L:WoL) (p:Sp):WoL:={ L with ev:=p }
theorem p_g {Q:Nat→Prop} {w:World} {L:WoL} {X:Wo} (R:RWo Q w L X) {p:Sp} {ev:List Ev} (V:Vs repEv Q w p.a p.n ev) (C:p.ok):RWo Q w (L.setEv p) { X with ev:=ev }:=⟨R.co,R.ws,R.ts,R.bs,R.th,V,R.cco,R.cth,C⟩
end Go.Proofs.YtogdpojnbgeknaaGreatDoor
namespace Go.Proofs.YtogdpojnbgeknaaGreatDoor
open Go.ChangeShapes Go.WideShapes Go.ChangeAt Go.RowKit
open Gen
open Lib (hid)
def g_O (e:TypeId) (sz n:Nat) (cs:List Value) (w:World) (en:Ending) (w':World):Prop:=∃ a c,en=.returned (.slice a n c)∧Cap a n c∧w'.ownsRow w.heap.size e sz (.slice a n c) n cs∧Below w.heap.size w w'
theorem e_G {e:TypeId} {sz n:Nat} {cs:List Value} {v:Value} {w w':World} (h:w'.ownsRow w.heap.size e sz v n cs) (hb:Below w.heap.size w w'):g_O e sz n cs w (.returned v) w':=by
 obtain ⟨a,c,rfl⟩:=c_D h;refine ⟨a,c,rfl,?_,h,hb⟩
 rcases h.2 with ⟨h1,rfl⟩ | ⟨g,cap,cur,h1,-,-,h2,h3,-,-⟩
 ·cases h1;exact b_T
 ·cases h1;exact ⟨h2,by unfold maxLen at h3;omega,fun h=>by cases h⟩
theorem g_H {w:World} {B:Nat} {e:TypeId} {sz n c g:Nat} {cs:List Value} (h:w.ownsRow B e sz (.slice (some ⟨g,0,none⟩) n c) n cs):a_p w g cs:=by
 rcases h.2 with ⟨h1,-⟩ | ⟨g2,cap,cur,h1,-,h2,-,-,-,h3⟩
 ·cases h1
 ·cases h1
  intro i v hi;refine ⟨?_,by simp [World.frozen?,h2]⟩;rw [←h3,List.getElem?_take] at hi
  split at hi
  ·simp only [World.cell?,h2]
   simpa using hi
  ·cases hi
theorem s_w:(Tryz.prog.info? 3).map (fun i=>(i.zero,i.size,i.bytes))=some (some (.int .i64 0),1,8):=by kernel_rfl
theorem g_X (a:Option Addr) (n c:Nat) (cs:List Value) (w:World) (hl:cs.length=n*1) (hs:∀ p,a=some p→∀ j u,cs[j]?=some u→w.cell? (p.add j)=some u) (h1:∀ u∈cs,u.oneCell'=true) (ha:a=none→n=0) (hn:n≤1000000) :
  Calls Tryz.prog 85 #[.slice a n c] w (g_O 3 1 n cs w):=by
 obtain ⟨i0,hi,hz0,hz1,hz2⟩:=info_parts s_w;have HI:=N59;have ⟨HL,HS,H1⟩:=hh3 hl hs h1;have q:=fun w=>d_M 23 3 a n c Tryz.underlying23 w
 clear hi hz0 hz1 hz2 hl hs h1
 cases a with
 | none =>
  obtain rfl:n=0:=ha rfl;obtain rfl:cs=[]:=List.eq_nil_of_length_eq_zero (by have:=HL.out;omega);clear ha hn
  go_enter Tryz.func85,Tryz.ntmps85
  exact J65
 | some p =>
  clear ha
  go_enter Tryz.func85,Tryz.ntmps85
  go_wp2_with (at_builtin;refine wpList_append_own _ rfl _ _ 23 rfl w.heap.size 3 i0 (.int .i64 0) 1 8 Tryz.underlying23 HI.out.1 HI.out.2.1 HI.out.2.2.1 HI.out.2.2.2 rfl (by decide) _ 0 [] rfl (World.ownsRow_made w #[] 0 (Nat.le_refl _) (by decide) (by simp)) p n c cs rfl ?c1 ?c2 ?c3 ?c4 ?c5 ?c6 ?_)
  case c1=>exact HL.out
  case c2=>exact fun j u hj=>b_a _ (HS.out p rfl j u hj)
  case c3=>exact H1.out
  case c4=>unfold maxLen;omega
  case c5=>omega
  case c6=>simp
  intro v' w1 hown' hgrow _;have hb':=N85;have ⟨HO,HB⟩:=hh2 hown' hb';clear hown' hb' hgrow
  go_wp2
  go_ret
  exact e_G HO.out HB.out
theorem q_x:(Tryz.prog.info? 66).map (fun i=>(i.zero,i.size,i.bytes))=some (some (.agg #[.int .i64 0,.int .i64 0,.int .i64 0,.int .i64 0]),4,32):=by kernel_rfl
theorem g_r (a:Option Addr) (n c:Nat) (cs:List Value) (w:World) (hl:cs.length=n*4) (hs:∀ p,a=some p→∀ j u,cs[j]?=some u→w.cell? (p.add j)=some u) (h1:∀ u∈cs,u.oneCell'=true) (ha:a=none→n=0) (hn:n≤1000000) :
  Calls Tryz.prog 32 #[.slice a n c] w (g_O 66 4 n cs w):=by
 obtain ⟨i0,hi,hz0,hz1,hz2⟩:=info_parts q_x;have HI:=N59;have ⟨HL,HS,H1⟩:=hh3 hl hs h1;have q:=fun w=>d_M 22 66 a n c Tryz.underlying22 w
 clear hi hz0 hz1 hz2 hl hs h1
 cases a with
 | none =>
  obtain rfl:n=0:=ha rfl;obtain rfl:cs=[]:=List.eq_nil_of_length_eq_zero (by have:=HL.out;omega);clear ha hn
  go_enter Tryz.func32,Tryz.ntmps32
  exact J65
 | some p =>
  clear ha
  go_enter Tryz.func32,Tryz.ntmps32
  go_wp2_with (at_builtin;refine wpList_append_own _ rfl _ _ 22 rfl w.heap.size 66 i0 (.agg #[.int .i64 0,.int .i64 0,.int .i64 0,.int .i64 0]) 4 32 Tryz.underlying22 HI.out.1 HI.out.2.1 HI.out.2.2.1 HI.out.2.2.2 rfl (by decide) _ 0 [] rfl (World.ownsRow_made w #[] 0 (Nat.le_refl _) (by decide) (by simp)) p n c cs rfl ?c1 ?c2 ?c3 ?c4 ?c5 ?c6 ?_)
  case c1=>exact HL.out
  case c2=>exact fun j u hj=>b_a _ (HS.out p rfl j u hj)
  case c3=>exact H1.out
  case c4=>unfold maxLen;omega
  case c5=>omega
  case c6=>simp
  intro v' w1 hown' hgrow _;have hb':=((Below.refl w.heap.size w).alloc (Nat.le_refl _) (.cells #[] 66)).grown hgrow (by simp) (fun r hr=>by cases hr;simp);have ⟨HO,HB⟩:=hh2 hown' hb';clear hown' hb' hgrow
  go_wp2
  go_ret
  exact e_G HO.out HB.out
theorem s_v:(Tryz.prog.info? 101).map (fun i=>(i.zero,i.size,i.bytes))=some (some (.agg #[.int .i64 0,.int .i64 0,.int .i64 0,.int .i64 0,.int .i64 0,.int .i64 0]),6,48):=by kernel_rfl
theorem k_h (a:Option Addr) (n c:Nat) (cs:List Value) (w:World) (hl:cs.length=n*6) (hs:∀ p,a=some p→∀ j u,cs[j]?=some u→w.cell? (p.add j)=some u) (h1:∀ u∈cs,u.oneCell'=true) (ha:a=none→n=0) (hn:n≤1000000) :
  Calls Tryz.prog 84 #[.slice a n c] w (g_O 101 6 n cs w):=by
 obtain ⟨i0,hi,hz0,hz1,hz2⟩:=info_parts s_v;have HI:=N59;have ⟨HL,HS,H1⟩:=hh3 hl hs h1;have q:=fun w=>d_M 31 101 a n c Tryz.underlying31 w
 clear hi hz0 hz1 hz2 hl hs h1
 cases a with
 | none =>
  obtain rfl:n=0:=ha rfl;obtain rfl:cs=[]:=List.eq_nil_of_length_eq_zero (by have:=HL.out;omega);clear ha hn
  go_enter Tryz.func84,Tryz.ntmps84
  exact J65
 | some p =>
  clear ha
  go_enter Tryz.func84,Tryz.ntmps84
  go_wp2_with (at_builtin;refine wpList_append_own _ rfl _ _ 31 rfl w.heap.size 101 i0 (.agg #[.int .i64 0,.int .i64 0,.int .i64 0,.int .i64 0,.int .i64 0,.int .i64 0]) 6 48 Tryz.underlying31 HI.out.1 HI.out.2.1 HI.out.2.2.1 HI.out.2.2.2 rfl (by decide) _ 0 [] rfl (World.ownsRow_made w #[] 0 (Nat.le_refl _) (by decide) (by simp)) p n c cs rfl ?c1 ?c2 ?c3 ?c4 ?c5 ?c6 ?_)
  case c1=>exact HL.out
  case c2=>exact fun j u hj=>b_a _ (HS.out p rfl j u hj)
  case c3=>exact H1.out
  case c4=>unfold maxLen;omega
  case c5=>omega
  case c6=>simp
  intro v' w1 hown' hgrow _;have hb':=((Below.refl w.heap.size w).alloc (Nat.le_refl _) (.cells #[] 101)).grown hgrow (by simp) (fun r hr=>by cases hr;simp);have ⟨HO,HB⟩:=hh2 hown' hb';clear hown' hb' hgrow
  go_wp2
  go_ret
  exact e_G HO.out HB.out
theorem q_y:(Tryz.prog.info? 55).map (fun i=>(i.zero,i.size,i.bytes))=some (some (.slice none 0 0),1,24):=by kernel_rfl
theorem j_c (a:Option Addr) (n c:Nat) (cs:List Value) (w:World) (hl:cs.length=n*1) (hs:∀ p,a=some p→∀ j u,cs[j]?=some u→w.cell? (p.add j)=some u) (h1:∀ u∈cs,u.oneCell'=true) (ha:a=none→n=0) (hn:n≤1000000) :
  Calls Tryz.prog 86 #[.slice a n c] w (g_O 55 1 n cs w):=by
 obtain ⟨i0,hi,hz0,hz1,hz2⟩:=info_parts q_y;have HI:=N59;have ⟨HL,HS,H1⟩:=hh3 hl hs h1;have q:=fun w=>d_M 28 55 a n c Tryz.underlying28 w
 clear hi hz0 hz1 hz2 hl hs h1
 cases a with
 | none =>
  obtain rfl:n=0:=ha rfl;obtain rfl:cs=[]:=List.eq_nil_of_length_eq_zero (by have:=HL.out;omega);clear ha hn
  go_enter Tryz.func86,Tryz.ntmps86
  exact J65
 | some p =>
  clear ha
  go_enter Tryz.func86,Tryz.ntmps86
  go_wp2_with (at_builtin;refine wpList_append_own _ rfl _ _ 28 rfl w.heap.size 55 i0 (.slice none 0 0) 1 24 Tryz.underlying28 HI.out.1 HI.out.2.1 HI.out.2.2.1 HI.out.2.2.2 rfl (by decide) _ 0 [] rfl (World.ownsRow_made w #[] 0 (Nat.le_refl _) (by decide) (by simp)) p n c cs rfl ?c1 ?c2 ?c3 ?c4 ?c5 ?c6 ?_)
  case c1=>exact HL.out
  case c2=>exact fun j u hj=>b_a _ (HS.out p rfl j u hj)
  case c3=>exact H1.out
  case c4=>unfold maxLen;omega
  case c5=>omega
  case c6=>simp
  intro v' w1 hown' hgrow _;have hb':=((Below.refl w.heap.size w).alloc (Nat.le_refl _) (.cells #[] 55)).grown hgrow (by simp) (fun r hr=>by cases hr;simp);have ⟨HO,HB⟩:=hh2 hown' hb';clear hown' hb' hgrow
  go_wp2
  go_ret
  exact e_G HO.out HB.out
theorem s_x:(Tryz.prog.info? 46).map (fun i=>(i.zero,i.size,i.bytes))=some (some (.agg thN.toArray),13,136):=by kernel_rfl
theorem k_i (a:Option Addr) (n c:Nat) (cs:List Value) (w:World) (hl:cs.length=n*13) (hs:∀ p,a=some p→∀ j u,cs[j]?=some u→w.cell? (p.add j)=some u) (h1:∀ u∈cs,u.oneCell'=true) (ha:a=none→n=0) (hn:n≤1000000) :
  Calls Tryz.prog 87 #[.slice a n c] w (g_O 46 13 n cs w):=by
 obtain ⟨i0,hi,hz0,hz1,hz2⟩:=info_parts s_x;have HI:=N59;have ⟨HL,HS,H1⟩:=hh3 hl hs h1;have q:=fun w=>d_M 24 46 a n c Tryz.underlying24 w
 clear hi hz0 hz1 hz2 hl hs h1
 cases a with
 | none =>
  obtain rfl:n=0:=ha rfl;obtain rfl:cs=[]:=List.eq_nil_of_length_eq_zero (by have:=HL.out;omega);clear ha hn
  go_enter Tryz.func87,Tryz.ntmps87
  exact J65
 | some p =>
  clear ha
  go_enter Tryz.func87,Tryz.ntmps87
  go_wp2_with (at_builtin;refine wpList_append_own _ rfl _ _ 24 rfl w.heap.size 46 i0 (.agg thN.toArray) 13 136 Tryz.underlying24 HI.out.1 HI.out.2.1 HI.out.2.2.1 HI.out.2.2.2 rfl (by decide) _ 0 [] rfl (World.ownsRow_made w #[] 0 (Nat.le_refl _) (by decide) (by simp)) p n c cs rfl ?c1 ?c2 ?c3 ?c4 ?c5 ?c6 ?_)
  case c1=>exact HL.out
  case c2=>exact fun j u hj=>b_a _ (HS.out p rfl j u hj)
  case c3=>exact H1.out
  case c4=>unfold maxLen;omega
  case c5=>omega
  case c6=>simp
  intro v' w1 hown' hgrow _;have hb':=((Below.refl w.heap.size w).alloc (Nat.le_refl _) (.cells #[] 46)).grown hgrow (by simp) (fun r hr=>by cases hr;simp);have ⟨HO,HB⟩:=hh2 hown' hb';clear hown' hb' hgrow
  go_wp2
  go_ret
  exact e_G HO.out HB.out
end Go.Proofs.YtogdpojnbgeknaaGreatDoor
namespace Go.Proofs.YtogdpojnbgeknaaGreatDoor
open Go.ChangeShapes Go.WideShapes Go.ChangeAt Go.RowKit
open Gen
theorem i_R {α:Type} {r:Rep α} {Q:Nat→Prop} {w:World} {a:Option Addr} {n:Nat} {ys:List α} (h:Vs r Q w a n ys):∃ cs,d_s r Q w cs ys∧∀ p,a=some p→∀ j u,cs[j]?=some u→w.cell? (p.add j)=some u:=by
 obtain ⟨h1,h2⟩:=h
 rcases h2 with h2 | ⟨b,o,e,-,f⟩
 ·obtain rfl:ys=[]:=List.eq_nil_of_length_eq_zero (by omega);exact ⟨[],rfl,fun p _ j u hj=>by simp at hj⟩
 ·have key:∀ k,k≤ys.length→∃ cs,d_s r Q w cs (ys.take k)∧∀ j u,cs[j]?=some u→w.cell? ⟨b,o+j,none⟩=some u:=by
   intro k
   induction k with
   | zero=>exact fun _=>⟨[],rfl,fun j u hj=>by simp at hj⟩
   | succ k ih =>
    intro hk;obtain ⟨cs,i1,i2⟩:=ih (by omega);obtain ⟨c,j1,j2⟩:=f k ys[k] (List.getElem?_eq_getElem hk);refine ⟨cs++c,?_,fun j u hj=>?_⟩
    ·rw [List.take_succ_eq_append_getElem hk];exact e_J j1 i1
    ·have hl:=b_f i1;rw [List.length_take,Nat.min_eq_left (by omega)] at hl
     by_cases hjc:j < cs.length
     ·rw [List.getElem?_append_left hjc] at hj;exact i2 j u hj
     ·rw [List.getElem?_append_right (by omega)] at hj;have:=j2 _ u hj;rw [show o+j=o+k*r.k+(j - cs.length) by omega];exact this
  obtain ⟨cs,i1,i2⟩:=key ys.length (Nat.le_refl _);rw [List.take_length] at i1;refine ⟨cs,i1,fun p hp j u hj=>?_⟩;rw [e] at hp
  cases hp
  rw [Gen.add_plain];exact i2 j u hj
theorem f_4 {α:Type} {r:Rep α} {Q:Nat→Prop} {w:World}:∀ {ys:List α} {cs:List Value},cs.length=ys.length*r.k→(∀ i y,ys[i]?=some y→∃ c,r.R Q w c y∧∀ j v,c[j]?=some v→cs[i*r.k+j]?=some v)→d_s r Q w cs ys
 | [],cs,hl,_=>List.eq_nil_of_length_eq_zero (by simpa using hl)
 | y::ys,cs,hl,h=>by
  obtain ⟨c,h1,h2⟩:=h 0 y rfl;have hc:=r.len h1;have hl2:cs.length=r.k+ys.length*r.k:=by rw [hl,List.length_cons,Nat.succ_mul,Nat.add_comm]
  have e:c=cs.take r.k:=by
   apply List.ext_getElem?
   intro j;rw [List.getElem?_take]
   by_cases hj:j < r.k
   ·rw [if_pos hj,List.getElem?_eq_getElem (show j < c.length by omega)];have:=h2 j _ (List.getElem?_eq_getElem (show j < c.length by omega));rw [Nat.zero_mul,Nat.zero_add] at this;exact this.symm
   ·rw [if_neg hj,List.getElem?_eq_none (by omega)]
  refine ⟨cs.take r.k,cs.drop r.k,(List.take_append_drop _ _).symm,e▸h1,f_4 (by rw [List.length_drop];omega) (fun i z hz=>?_)⟩;obtain ⟨d,d1,d2⟩:=h (i+1) z (by simpa using hz);refine ⟨d,d1,fun j v hj=>?_⟩;rw [List.getElem?_drop,show r.k+(i*r.k+j)=(i+1)*r.k+j by rw [Nat.succ_mul];omega];exact d2 j v hj
theorem g_3 {Q:Nat→Prop} {w:World}:∀ {ts:List Thr} {cs:List Value},d_s repTh Q w cs ts→∀ u∈cs,u.oneCell'=true
 | [],cs,h=>by rw [show cs=[] from h];intro u hu;cases hu
 | _::_,_,⟨c,d,e,⟨_,_,_,_,h1,_⟩,h2⟩=>by
  intro u hu;rw [e] at hu
  rcases List.mem_append.1 hu with h3 | h3
  ·rw [h1] at h3;exact g_9 _ _ _ _ _ _ _ u h3
  ·exact g_3 h2 u h3
theorem e_H {Q:Nat→Prop} {w:World}:∀ {is:List Ins} {cs:List Value},d_s repIns Q w cs is→∀ u∈cs,u.oneCell'=true
 | [],cs,h=>by rw [show cs=[] from h];intro u hu;cases hu
 | i::_,_,⟨c,d,e,h1,h2⟩=>by
  intro u hu;rw [e] at hu
  rcases List.mem_append.1 hu with h3 | h3
  ·rw [show c=g_z i from h1] at h3;simp [g_z] at h3;rcases h3 with rfl | rfl | rfl | rfl <;> rfl
  ·exact e_H h2 u h3
theorem m_a {w:World} {a:Option Addr} {n:Nat} {zs:List Int} (h:Sl w a n zs):∀ p,a=some p→∀ j u,(zs.map (Value.int .i64))[j]?=some u→w.cell? (p.add j)=some u:=by
 intro p hp j u hj
 rcases h.2 with h2 | ⟨b,o,e,R⟩
 ·have:zs=[]:=List.eq_nil_of_length_eq_zero (by have:=h.1;omega);subst this;simp at hj
 ·rw [e] at hp;cases hp;rw [Gen.add_plain];have hl:j < zs.length:=by have:=(List.getElem?_eq_some_iff.1 hj).1;simpa using this
  rw [R j hl];rw [List.getElem?_map,List.getElem?_eq_getElem hl] at hj;rw [List.getD_eq_getElem?_getD,List.getElem?_eq_getElem hl];exact hj
theorem o_C (zs:List Int):∀ u∈zs.map (Value.int .i64),u.oneCell'=true:=by
 intro u hu;obtain ⟨z,_,rfl⟩:=List.mem_map.1 hu
 rfl
def BAt (Q:Nat→Prop) (w:World) (cs:List Value) (i:Nat) (b:List (Int×Int)):Prop:=∃ q c,cs[i]?=some (.slice q b.length c)∧d_v q b.length c∧PlQ Q w q b.length b
theorem s_f {Q:Nat→Prop} {w:World} {a:Option Addr} {n:Nat} {bs:List (List (Int×Int))} (h:BlP Q w a n bs):∃ cs:List Value,cs.length=n∧(∀ p,a=some p→∀ j u,cs[j]?=some u→w.cell? (p.add j)=some u)∧(∀ i b,bs[i]?=some b→BAt Q w cs i b)∧∀ u∈cs,u.oneCell'=true:=by
 obtain ⟨h1,h2⟩:=h
 rcases h2 with h2 | ⟨b,o,e,-,f⟩
 ·obtain rfl:bs=[]:=List.eq_nil_of_length_eq_zero (by omega);exact ⟨[],by simp;omega,fun p _ j u hj=>by simp at hj,fun i b hb=>by simp at hb,fun u hu=>by cases hu⟩
 ·have hc:∀ i,i < n→∃ q c,w.cell? ⟨b,o+i,none⟩=some (.slice q (bs.getD i []).length c)∧d_v q (bs.getD i []).length c∧PlQ Q w q (bs.getD i []).length (bs.getD i []):=fun i hi=>f i (by omega)
  refine ⟨(List.range n).map (fun i=>(w.cell? ⟨b,o+i,none⟩).getD undef),by simp,fun p hp j u hj=>?_,fun i y hy=>?_,fun u hu=>?_⟩
  ·rw [e] at hp;cases hp;have hj2:j < n:=by have:=(List.getElem?_eq_some_iff.1 hj).1;simpa using this
   obtain ⟨q,c,k1,-,-⟩:=hc j hj2;rw [List.getElem?_map,List.getElem?_range hj2] at hj;rw [Gen.add_plain,k1]
   simpa [k1] using hj
  ·have hi:=(List.getElem?_eq_some_iff.1 hy).1;obtain ⟨q,c,k1,k2,k3⟩:=hc i (by omega);have e2:bs.getD i []=y:=by rw [List.getD_eq_getElem?_getD,hy];rfl
   rw [e2] at k1 k2 k3;exact ⟨q,c,by rw [List.getElem?_map,List.getElem?_range (by omega)];simp [k1],k2,k3⟩
  ·obtain ⟨i,hi,rfl⟩:=List.mem_map.1 hu;obtain ⟨q,c,k1,-,-⟩:=hc i (by simpa using hi);rw [k1];rfl
def n_y (k:Nat) (Qn Qo:Nat→Prop) (w:World) (ts:List Thr) (TC:List Value):Prop:=TC.length=ts.length*13∧∀ i t,ts[i]?=some t→∃ fa fc la lc,(∀ j v,(thC t fa t.fs.length fc la t.lf.length lc)[j]?=some v→TC[i*13+j]?=some v)∧ThQ (if i < k then Qn else Qo) w fa t.fs.length fc la t.lf.length lc t
def p_K (k:Nat) (Qn Qo:Nat→Prop) (w:World) (bs:List (List (Int×Int))) (BC:List Value):Prop:=BC.length=bs.length∧∀ i b,bs[i]?=some b→BAt (if i < k then Qn else Qo) w BC i b
theorem f_L {k:Nat} {Qn Qo:Nat→Prop} {w w':World} {ts:List Thr} {TC:List Value} (h1:Kept Qn w w') (h2:Kept Qo w w') (h:n_y k Qn Qo w ts TC):n_y k Qn Qo w' ts TC:=⟨h.1,fun i t ht=>by
 obtain ⟨fa,fc,la,lc,a,b⟩:=h.2 i t ht;refine ⟨fa,fc,la,lc,a,a_w ?_ b⟩
 split
 ·exact h1
 ·exact h2⟩
theorem f_K {k:Nat} {Qn Qo:Nat→Prop} {w w':World} {bs:List (List (Int×Int))} {BC:List Value} (h1:Kept Qn w w') (h2:Kept Qo w w') (h:p_K k Qn Qo w bs BC):p_K k Qn Qo w' bs BC:=⟨h.1,fun i t ht=>by
 obtain ⟨q,c,a,b,d⟩:=h.2 i t ht;refine ⟨q,c,a,b,d.1,d.2.imp id fun ⟨b,o,e,hq,r⟩=>⟨b,o,e,hq,fun j hj=>?_⟩⟩
 split at hq
 ·exact ⟨h1 _ _ _ hq (r j hj).1,h1 _ _ _ hq (r j hj).2⟩
 ·exact ⟨h2 _ _ _ hq (r j hj).1,h2 _ _ _ hq (r j hj).2⟩⟩
theorem q_L {k:Nat} {Qn Qo:Nat→Prop} {w:World} {ts:List Thr} {TC:List Value} {t:Thr} {a b:Option Addr} {c d:Nat} (h:n_y k Qn Qo w ts TC) (ht:ts[k]?=some t) (ca:Cap a t.fs.length c) (va:Vs repFr Qn w a t.fs.length t.fs) (cb:Cap b t.lf.length d) (vb:Vs repInt Qn w b t.lf.length t.lf) :
  n_y (k+1) Qn Qo w ts ((TC.set (k*13+9) (.slice a t.fs.length c)).set (k*13+12) (.slice b t.lf.length d)):=by
 have hk:=(List.getElem?_eq_some_iff.1 ht).1;refine ⟨by simp [h.1],fun i u hu=>?_⟩;obtain ⟨fa,fc,la,lc,h1,h2⟩:=h.2 i u hu;have hi:=(List.getElem?_eq_some_iff.1 hu).1
 by_cases e:i=k
 ·subst e;rw [ht] at hu;cases hu;refine ⟨a,c,b,d,fun j v hj=>?_,by rw [if_pos (by omega)];exact ⟨ca,va,cb,vb⟩⟩;have hj13:j < 13:=(List.getElem?_eq_some_iff.1 hj).1;have hl:=h.1;rw [List.getElem?_set,List.getElem?_set]
  by_cases e12:j=12
  ·subst e12;rw [if_pos rfl,if_pos (by simp;omega)];exact hj
  ·rw [if_neg (by omega)]
   by_cases e9:j=9
   ·subst e9;rw [if_pos rfl,if_pos (by omega)];exact hj
   ·rw [if_neg (by omega)];refine h1 j v ?_;rw [←hj]
    rcases (show j=0∨j=1∨j=2∨j=3∨j=4∨j=5∨j=6∨j=7∨j=8∨j=10∨j=11 by omega) with rfl | rfl | rfl | rfl | rfl | rfl | rfl | rfl | rfl | rfl | rfl <;> rfl
 ·refine ⟨fa,fc,la,lc,fun j v hj=>?_,?_⟩
  ·have hj13:j < 13:=(List.getElem?_eq_some_iff.1 hj).1;rw [List.getElem?_set,List.getElem?_set,if_neg (by omega),if_neg (by omega)];exact h1 j v hj
  ·by_cases e2:i < k
   ·rw [if_pos e2] at h2;rw [if_pos (by omega)];exact h2
   ·rw [if_neg e2] at h2;rw [if_neg (by omega)];exact h2
theorem q_J {k:Nat} {Qn Qo:Nat→Prop} {w:World} {bs:List (List (Int×Int))} {BC:List Value} {x:List (Int×Int)} {q:Option Addr} {c:Nat} (h:p_K k Qn Qo w bs BC) (hx:bs[k]?=some x) (hc:d_v q x.length c) (hp:PlQ Qn w q x.length x) :
  p_K (k+1) Qn Qo w bs (BC.set k (.slice q x.length c)):=by
 have hk:=(List.getElem?_eq_some_iff.1 hx).1;refine ⟨by simp [h.1],fun i u hu=>?_⟩
 by_cases e:i=k
 ·subst e;rw [hx] at hu;cases hu;exact ⟨q,c,by rw [List.getElem?_set_self (by rw [h.1];exact hk)],hc,by rw [if_pos (by omega)];exact hp⟩
 ·obtain ⟨q2,c2,h1,h2,h3⟩:=h.2 i u hu;refine ⟨q2,c2,by rw [List.getElem?_set_ne (fun h=>e h.symm)];exact h1,h2,?_⟩
  by_cases e2:i < k
  ·rw [if_pos e2] at h3;rw [if_pos (by omega)];exact h3
  ·rw [if_neg e2] at h3;rw [if_neg (by omega)];exact h3
theorem o_G {k:Nat} {Q Qn Qo:Nat→Prop} {w:World} {ts:List Thr} {TC:List Value} (h:n_y k Qn Qo w ts TC) (hk:ts.length≤k) (hQ:∀ b,Qn b→Q b):d_s repTh Q w TC ts:=
 f_4 (r:=repTh) h.1 fun i t ht=>by
  obtain ⟨fa,fc,la,lc,a,b⟩:=h.2 i t ht;have hi:=(List.getElem?_eq_some_iff.1 ht).1;rw [if_pos (by omega)] at b;exact ⟨_,⟨fa,fc,la,lc,rfl,b_y hQ b⟩,a⟩
theorem s_G {k:Nat} {Q Qn Qo:Nat→Prop} {w:World} {bs:List (List (Int×Int))} {BC:List Value} {g:Nat} (h:p_K k Qn Qo w bs BC) (hk:bs.length≤k) (hQ:∀ b,Qn b→Q b) (hg:Q g) (hv:a_p w g BC):BlP Q w (some ⟨g,0,none⟩) bs.length bs:=
 ⟨rfl,.inr ⟨g,0,rfl,hg,fun i hi=>by
  obtain ⟨q,c,a,b,d⟩:=h.2 i _ (List.getElem?_eq_getElem hi);rw [if_pos (by omega)] at d;have e:bs.getD i []=bs[i]:=by rw [List.getD_eq_getElem?_getD,List.getElem?_eq_getElem hi];rfl
  rw [e];refine ⟨q,c,?_,b,d.1,d.2.imp id fun ⟨b,o,e,hq,r⟩=>⟨b,o,e,hQ _ hq,r⟩⟩;rw [Nat.zero_add];exact (hv i _ a).1⟩⟩
end Go.Proofs.YtogdpojnbgeknaaGreatDoor
