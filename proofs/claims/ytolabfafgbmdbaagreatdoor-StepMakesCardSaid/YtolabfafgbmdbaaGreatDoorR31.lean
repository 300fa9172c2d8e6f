import Derived.Test.YtolabfafgbmdbaaGreatDoorR29
import Derived.Test.YtolabfafgbmdbaaGreatDoorR20
import Derived.Test.YtolabfafgbmdbaaGreatDoorR4
import Derived.Laws.Cover3
import Derived.Test.YtolabfafgbmdbaaGreatDoorR0
import Derived.Test.YtolabfafgbmdbaaGreatDoorR30
import Derived.Test.YtolabfafgbmdbaaGreatDoorR19
import Derived.Test.YtolabfafgbmdbaaGreatDoorR5
set_option maxRecDepth 100000
set_option maxHeartbeats 16000000
namespace Go.Proofs.YtolabfafgbmdbaaGreatDoor
open Go.ChangeShapes Go.WideShapes Go.ChangeAt Go.RowKit
open Gen
open Lib (hid)
theorem g_2 {α:Type} {r:Rep α} {Q:Nat→Prop} {w:World}:∀ {ys:List α} {cs:List Value},c_m r Q w cs ys→c_m r (fun b=>Q b∧b < w.heap.size) w cs ys
 | [],_,h=>h
 | _::_,_,⟨c,d,e,h1,h2⟩=>⟨c,d,e,r.und h1,g_2 h2⟩
theorem o_n {Q:Nat→Prop} {V w1:World} {g b:Nat} {L:WoL} {X:Wo} {k:Nat} {ea fa:Option Addr} {en ec fc:Nat} {es six:List Value} {e:Ev} (H:Wk Q V g b L X k) (hp:L.ev=⟨ea,en,ec⟩) (hg:V.grownBy w1 (Value.slice ea en ec).ownBlock)
  (ho:w1.ownsRow 0 101 6 (.slice fa (en+1) fc) (en+1) (es++six)) (hb:(Value.slice fa (en+1) fc).ownBlock=(Value.slice ea en ec).ownBlock∨∃ q,(Value.slice fa (en+1) fc).ownBlock=some q∧V.heap.size≤q) (hf:c_m repEv Q V es X.ev) (h6:six=p_h e:=by rfl) :
  Wk (fun x=>Q x∧(Value.slice fa (en+1) fc).ownBlock≠some x) (w1.setCell ⟨g,6,none⟩ (.slice fa (en+1) fc)) g b (L.setEv ⟨fa,en+1,fc⟩) { X with ev:=X.ev++[e] } k:=by
 have hevo:=H.evo;rw [hp] at hevo;have hlo:=H.lo.2;rw [hp] at hlo;have hgs:g < V.heap.size:=a_z H.x (by simp)
 have hbs:b < V.heap.size:=by
  obtain ⟨TC,h1,h2⟩:=H.tc;have h3:=a_M h2;have h4:repTh.k=13:=rfl;have h5:=H.hk;exact a_z h1 (by rw [h3,h4];omega)
 have hneg:(Value.slice fa (en+1) fc).ownBlock≠some g:=fun h=>by
  rcases hb with h1 | ⟨q,h1,h2⟩
  ·rw [h1] at h;exact (hevo g h).1 rfl
  ·rw [h1] at h;cases h;omega
 have hneb:(Value.slice fa (en+1) fc).ownBlock≠some b:=fun h=>by
  rcases hb with h1 | ⟨q,h1,h2⟩
  ·rw [h1] at h;exact (hevo b h).2.1 rfl
  ·rw [h1] at h;cases h;omega
 have hK1:c_n Q V w1:=g_A hg (fun c hc h=>(hevo c h).2.2 hc);have hK:c_n Q V (w1.setCell ⟨g,6,none⟩ (.slice fa (en+1) fc)):=b_M hK1 (b_e _ _ _ (fun c hc=>(H.hQ c hc).1))
 have hu:∀ c,Q c∧c < V.heap.size→Q c∧(Value.slice fa (en+1) fc).ownBlock≠some c:=fun c hc=>⟨hc.1,fun h=>by
  rcases hb with h1 | ⟨q,h1,h2⟩
  ·rw [h1] at h;exact (hevo c h).2.2 hc.1
  ·rw [h1] at h;cases h;omega⟩
 have hKu:c_n (fun c=>Q c∧c < V.heap.size) V (w1.setCell ⟨g,6,none⟩ (.slice fa (en+1) fc)):=fun b o v hq hv=>hK b o v hq.1 hv
 obtain ⟨TC,t1,t2⟩:=H.tc;have tx:a_p w1 g (wkC L X.D k):=c_j hg (fun h=>(hevo g h).1 rfl) H.x;have h6x:=a_N tx 6 (by simp) (.slice fa (en+1) fc);subst h6;refine ⟨h6x,H.hb,⟨TC,a_D (c_j hg (fun h=>(hevo b h).2.1 rfl) t1) H.hgb _,b_7 hu (a_1 hKu (g_2 t2))⟩,a_P hu (a_w hKu (d_b H.co)),a_k hu (a_q hKu (d_k (fun _ q h=>⟨q,h⟩) H.ws)),a_k hu (a_q hKu (d_k (fun _ q h=>⟨q,h⟩) H.ts)),a_A hu (a_H hKu (f_A (fun _ q h=>⟨q,h⟩) H.bs)),⟨es++p_h e,?_,?_⟩,?_,H.cco,H.cth,?_,H.hk,H.hn,fun c hc=>H.hQ c hc.1,H.hgb,fun c hc=>?_,fun c hc=>H.lo.1 c hc.1,fun c hc=>?_⟩
 ·exact a_F (us:=[.slice fa (en+1) fc]) (k:=6) hneg ho
 ·exact d_z (r:=repEv) rfl (b_7 hu (a_1 hKu (g_2 hf)))
 ·exact fun c hc=>⟨fun e=>hneg (e▸hc),fun e=>hneb (e▸hc),fun h=>h.2 hc⟩
 ·obtain ⟨a2,c2,e2,k1,k2,k3,-⟩:=i_k (r:=repEv) (Q:=Any) ho (show c_m repEv Any w1 (es++p_h e) (X.ev++[e]) from d_z (r:=repEv) rfl (b_7 (fun _ _=>trivial) (a_1 hK1 hf))) (fun _ _ _=>trivial)
  cases e2
  exact ⟨k1,k2,k3⟩
 ·have hs:w1.heap.size≤c:=by simpa using hc
  exact ⟨H.new c (Nat.le_trans hg.size hs),fun h=>by have:=(a_R ho h).2;omega⟩
 ·have hc':(Value.slice fa (en+1) fc).ownBlock=some c:=hc
  rcases hb with h1 | ⟨q,h1,h2⟩
  ·rw [h1] at hc';exact hlo c hc'
  ·rw [h1] at hc';cases hc';omega
def n_i (h:Nat) (V:World) (g b k:Nat) (ra:Int) (t:Thr) (ea:Option Addr) (en ec:Nat) (es:List Value):a_6:=[isV 0 (.pointer (some ⟨g,0,none⟩)),isV 1 (.pointer (some ⟨g,0,none⟩)),isV 2 (.pointer (some ⟨g,0,none⟩)),isV 3 (.pointer (some ⟨g,0,none⟩)),isV 4 (.pointer (some ⟨g,6,none⟩)),isV 5 (.slice ea en ec),isV 6 (.pointer (some ⟨h,1,none⟩)),isV 7 (.int .i64 ra),isV 8 (.pointer (some ⟨g,0,none⟩)),isV 9 (.pointer (some ⟨g,0,none⟩)),isV 10 (.pointer (some ⟨g,7,none⟩)),isV 11 (.int .i64 k),isV 12 (.pointer (some ⟨b,k*13,none⟩)),isV 13 (.pointer (some ⟨b,k*13,none⟩)),isV 14 (.pointer (some ⟨b,k*13+1,none⟩)),isV 15 (.slice (some ⟨b,k*13+1,none⟩) 4 8),isV 16 (.pointer (some ⟨b,k*13+1,none⟩)),isV 17 (.agg #[.int .i64 (t.r 0),.int .i64 (t.r 1),.int .i64 (t.r 2),.int .i64 (t.r 3)]),isV 18 (.agg #[.int .i64 ra,.int .i64 k,.int .i64 (t.r 0),.int .i64 (t.r 1),.int .i64 (t.r 2),.int .i64 (t.r 3)]),([19],fun vz w=>∃ g6,vz=[.slice (some ⟨g6,0,none⟩) 1 1]∧V.heap.size≤g6∧a_p w g6 [.int .i64 ra,.int .i64 k,.int .i64 (t.r 0),.int .i64 (t.r 1),.int .i64 (t.r 2),.int .i64 (t.r 3)]),([20],fun vz w=>∃ fa fc,vz=[.slice fa (en+1) fc]∧w.ownsRow 0 101 6 (.slice fa (en+1) fc) (en+1) (es++[.int .i64 ra,.int .i64 k,.int .i64 (t.r 0),.int .i64 (t.r 1),.int .i64 (t.r 2),.int .i64 (t.r 3)])∧((Value.slice fa (en+1) fc).ownBlock=(Value.slice ea en ec).ownBlock∨∃ q,(Value.slice fa (en+1) fc).ownBlock=some q∧V.heap.size≤q)),isW 21 [] (.pointer (some ⟨g,0,none⟩)),isW 22 [21] (.pointer (some ⟨g,0,none⟩)),isW 23 [22,21] (.pointer (some ⟨g,6,none⟩))]
theorem l_M (h:Nat) (V:World) (g b k:Nat) (ra:Int) (t:Thr) (ea:Option Addr) (en ec:Nat) (es:List Value):b_E (n_i h  V  g b k  ra  t  ea  en ec  es ):=a_c<|a_c<|a_c<|a_c<|a_c<|a_c<|a_c<|a_c<|a_c<|a_c<|a_c<|a_c<|a_c<|a_c<|a_c<|a_c<|a_c<|a_c<|a_c<|a_u (fun _ _ _ hb h=>by obtain ⟨g6,h1,h2,h3⟩:=h;exact ⟨g6,h1,h2,a_f hb h3⟩)<|a_u (fun _ _ _ hb h=>by obtain ⟨fa,fc,h1,h2,h3⟩:=h;exact ⟨fa,fc,h1,a_K h2 hb,h3⟩)<|a_C<|a_C<|a_C<|a_2
theorem n_G (h:Nat) (V:World) (g b k:Nat) (ra:Int) (t:Thr) (ea:Option Addr) (en ec:Nat) (es:List Value):∀ jz args wz wz',jz≠19→jz≠20→b_w (n_i h  V  g b k  ra  t  ea  en ec  es ) jz args wz→b_w (n_i h  V  g b k  ra  t  ea  en ec  es ) jz args wz':=by
 intro jz args wz wz' n0 n1 h
 match jz with
 | 0=>exact h
 | 1=>exact h
 | 2=>exact h
 | 3=>exact h
 | 4=>exact h
 | 5=>exact h
 | 6=>exact h
 | 7=>exact h
 | 8=>exact h
 | 9=>exact h
 | 10=>exact h
 | 11=>exact h
 | 12=>exact h
 | 13=>exact h
 | 14=>exact h
 | 15=>exact h
 | 16=>exact h
 | 17=>exact h
 | 18=>exact h
 | 19=>exact absurd rfl n0
 | 20=>exact absurd rfl n1
 | 21=>exact h
 | 22=>exact h
 | 23=>exact h
 | _+24=>exact trivial
theorem l_y (Q:Nat→Prop) (g b:Nat) (Sx:Nat→Prop) (L:WoL) (X Y:Wo) (k:Nat) (i:Ins) (E:Int) (w:World) (H:Wk Q w g b L X k) (hN:Sx g∧Sx b) (hpc:0≤(thW X k).pc∧(thW X k).pc≤1000) (ho:i.1=26) (hE:E=0) (hen:L.ev.n≤200000) (hno:∀ q,(Value.slice L.ev.a L.ev.n L.ev.c).ownBlock=some q→Sx q) (hY:{ b_y X k (b_s (thW X k)) with ev:=X.ev++[(i.2.1,(k:Int),(thW X k).r 0,(thW X k).r 1,(thW X k).r 2,(thW X k).r 3)] }=Y) :
  Calls Tryz.prog 94 #[.pointer (some ⟨g,0,none⟩),.agg #[.int .i64 i.1,.int .i64 i.2.1,.int .i64 i.2.2.1,.int .i64 i.2.2.2]] w (b_u g b Sx X Y k E w):=by
 obtain ⟨op,ra,rb,rc⟩:=i;simp only at *;obtain ⟨W,hW⟩:=nm (w.alloc (Obj.cells (inC (op,ra,rb,rc)).toArray 66));have HI:=N9;have HB:=N1
 have HGS:=hid (show g < w.heap.size∧b < w.heap.size from ⟨a_z H.x (by simp),by
  obtain ⟨TC,h1,h2⟩:=H.tc;have h3:=a_M h2;have h4:repTh.k=13:=rfl;have h5:=H.hk;exact a_z h1 (by rw [h3,h4];omega)⟩)
 have HH:=hid (c_p HB.out H);have HH0:=hid H;have HC:=N20;obtain ⟨t,htt⟩:=mn (thW X k);rw [htt] at hpc hY;have ⟨HTT,HNN,HPC,HW⟩:=hh4 htt hN hpc hW;subst ho hE;have ⟨HY,HEN0,HNO0⟩:=hh3 hY hen hno;clear hY hen hno htt;clear hW H hN hpc
 go_enter Tryz.func94,Tryz.ntmps94
 go_upto_region 1 with fail
 rw [←HW.out]
 go_wp2_with fail
 refine HC.out.mono ?_;rintro e1 V ⟨rfl,m,hm⟩;have HB1:=N5;clear HC hm;have HHV:=hid (c_p HB1.out HH.out);have HIV:=hid (a_f HB1.out HI.out);have HBV:=hid (a_b HB.out HB1.out);have HBN:=N15;clear HB HB1 HH HI HW;obtain ⟨y0,-⟩:=HIV.out 0 _ rfl;obtain ⟨p,hp⟩:=mn (L.ev);obtain ⟨ea,en,ec⟩:=p;have HEV:=hid hp;have HEN:=hid (show en≤200000 by have:=HEN0.out;rw [hp] at this;exact this);have HNO:=hid (show ∀ q,(Value.slice ea en ec).ownBlock=some q→Sx q by have:=HNO0.out;rw [hp] at this;exact this);obtain ⟨es,how,hfe⟩:=HHV.out.ev;have hevo:=HHV.out.evo;rw [hp] at how hevo;have ⟨HOW,HFE⟩:=hh2 how hfe;have HOB:=hid (show ∀ q,(Value.slice ea en ec).ownBlock=some q→q < V.heap.size from fun q hq=>(a_R how hq).2)
 have HNE:=hid (show some g≠(Value.slice ea en ec).ownBlock∧some b≠(Value.slice ea en ec).ownBlock∧some w.heap.size≠(Value.slice ea en ec).ownBlock from ⟨fun h=>(hevo g h.symm).1 rfl,fun h=>(hevo b h.symm).2.1 rfl,fun h=>by
  obtain ⟨es0,how0,-⟩:=HH0.out.ev;rw [hp] at how0;have:=(a_R how0 h.symm).2;omega⟩)
 obtain ⟨j0,ki,kz0,kz1,kz2⟩:=info_parts q_f;have HJ:=N87;obtain ⟨x6,f6⟩:=HHV.out.x 6 _ rfl;obtain ⟨x7,-⟩:=HHV.out.x 7 _ rfl;rw [hp] at x6;obtain ⟨y1,-⟩:=HIV.out 1 _ rfl
 have HR4:=hid (show V.rangeAt b (k*13+1) [.int .i64 (t.r 0),.int .i64 (t.r 1),.int .i64 (t.r 2),.int .i64 (t.r 3)] from fun j v hj=>by
  have h:=j_v HHV.out;rw [HTT.out] at h;refine h j v ?_
  match j,hj with
  | 0,hj=>exact hj
  | 1,hj=>exact hj
  | 2,hj=>exact hj
  | 3,hj=>exact hj)
 clear how hfe hevo hp ki kz0 kz1 kz2 HEN0 HNO0;have hG:=l_M w.heap.size V g b k ra t ea en ec es
 go_wp2_with fail
 clear y0;refine g_l 24 20 rfl [some 124,some 125,some 126,some 127,some 128,some 129,some 130,some 131,some 132,some 133,some 134,some 135,some 136,some 137,some 138,some 139,some 140,some 141,some 142,some 143,some 144,some 145,some 146,some 147] (fun bl w'=>(bl=false→Below V.heap.size V w')∧V.grownBy w' (Value.slice ea en ec).ownBlock) (n_i w.heap.size V g b k ra t ea en ec es) 100 100 (fun _ _ _=>True) (by kernel_rfl) (by kernel_rfl) (by decide) rfl rfl (⟨fun _=>(Below.refl _ _).drew,⟨rfl,rfl,rfl,Nat.le_refl _,fun _ _ _=>rfl⟩⟩) ?_
 show StepsL _ _ _ _ _ _ _
 refine InvY.c (fun _ _ w1 _ hbl _ C _ hK=>oR C hK (h:=by simp [execOp,go_sem,C.o 0 (.pointer (some ⟨g,0,none⟩))])) ?_;refine InvY.c (fun _ _ w1 _ hbl _ C _ hK=>oR C hK (h:=by simp [execOp,go_sem,C.o 0 (.pointer (some ⟨g,0,none⟩))])) ?_;refine InvY.c (fun _ _ w1 _ hbl _ C _ hK=>oR C hK (h:=by simp [execOp,go_sem,C.i 1])) ?_;refine InvY.c (fun _ _ w1 _ hbl _ C _ hK=>oR C hK (h:=by simp [execOp,go_sem,C.i 2])) ?_;refine InvY.c (fun _ _ w1 _ hbl _ C _ hK=>oR C hK (h:=by simp [execOp,go_sem,C.i 3])) ?_;refine InvY.c (fun a1 vals w1 bl hbl hdf C K hK=>?_) ?_
 ·have e0:=C.i 4;have kc:=C.base.2.cell x6 HNE.out.1;refine a_d rfl (a_o (v:=.slice ea en ec) ?_ (b_k hK C rfl rfl));simp [execOp,go_sem,e0,kc]
 refine InvY.c (fun _ _ w1 _ hbl _ C _ hK=>oR C hK (h:=by simp [execOp,go_sem,C.o 3 (.pointer (some ⟨w.heap.size,0,none⟩))])) ?_;refine InvY.c (fun a1 vals w1 bl hbl hdf C K hK=>?_) ?_
 ·have e0:=C.i 6;have kc:=C.base.2.cell y1 HNE.out.2.2;refine a_d rfl (a_o (v:=.int .i64 ra) ?_ (b_k hK C rfl rfl));simp [execOp,go_sem,e0,kc]
 refine InvY.c (fun _ _ w1 _ hbl _ C _ hK=>oR C hK (h:=by simp [execOp,go_sem,C.o 0 (.pointer (some ⟨g,0,none⟩))])) ?_;refine InvY.c (fun _ _ w1 _ hbl _ C _ hK=>oR C hK (h:=by simp [execOp,go_sem,C.i 8])) ?_;refine InvY.c (fun _ _ w1 _ hbl _ C _ hK=>oR C hK (h:=by simp [execOp,go_sem,C.i 9])) ?_;refine InvY.c (fun a1 vals w1 bl hbl hdf C K hK=>?_) ?_
 ·have e0:=C.i 10;have kc:=C.base.2.cell x7 HNE.out.1;refine a_d rfl (a_o (v:=.int .i64 k) ?_ (b_k hK C rfl rfl));simp [execOp,go_sem,e0,kc]
 refine InvY.c (fun _ _ w1 _ hbl _ C _ hK=>oR C hK (h:=by simp [execOp,go_sem,C.o 4 (.pointer (some ⟨b,k*13,none⟩))])) ?_;refine InvY.c (fun _ _ w1 _ hbl _ C _ hK=>oR C hK (h:=by simp [execOp,go_sem,C.i 12])) ?_;refine InvY.c (fun _ _ w1 _ hbl _ C _ hK=>oR C hK (h:=by simp [execOp,go_sem,C.i 13])) ?_;refine InvY.c (fun _ _ w1 _ hbl _ C _ hK=>oR C hK (h:=by simp [execOp,go_sem,C.i 14])) ?_;refine InvY.c (fun _ _ w1 _ hbl _ C _ hK=>oR C hK (h:=by simp [execOp,go_sem,C.i 15,run_arrayAt w1 99 _ 4 (some ⟨b,k*13+1,none⟩) 4 8 Tryz.underlying99 (by decide)])) ?_;refine InvY.c (fun a1 vals w1 bl hbl hdf C K hK=>?_) ?_
 ·have e0:=C.i 16;exact a_d rfl (wp_load_mid 99 _ rfl (b) (k*13+1) ((a_s a1 _).symm.trans e0) [.int .i64 (t.r 0),.int .i64 (t.r 1),.int .i64 (t.r 2),.int .i64 (t.r 3)] _ (fun j v hj=>C.base.2.cell (HR4.out j v hj) HNE.out.2.1) Tryz.underlying99 rfl (by kernel_rfl) (b_k hK C rfl rfl))
 refine InvY.c (fun _ _ w1 _ hbl _ C _ hK=>oR C hK (h:=by simp [execOp,go_sem,C.i 7,C.i 11,C.i 17])) ?_;refine InvY.c (fun a1 vals w1 bl hbl hdf C K hK=>?_) ?_
 ·have e0:=C.i 18;have hA:Below w1.heap.size w1 (w1.alloc (Obj.cells #[.int .i64 ra,.int .i64 k,.int .i64 (t.r 0),.int .i64 (t.r 1),.int .i64 (t.r 2),.int .i64 (t.r 3)] 101)):=(Below.refl _ _).alloc (Nat.le_refl _) _;have hbs:=C.base.2.size;refine a_d rfl (a_o (v:=.slice (some ⟨w1.heap.size,0,none⟩) 1 1) (w':=w1.alloc (Obj.cells #[.int .i64 ra,.int .i64 k,.int .i64 (t.r 0),.int .i64 (t.r 1),.int .i64 (t.r 2),.int .i64 (t.r 3)] 101)) ?_ (hK _ _ ⟨w1.heap.size,rfl,hbs,a_i [.int .i64 ra,.int .i64 k,.int .i64 (t.r 0),.int .i64 (t.r 1),.int .i64 (t.r 2),.int .i64 (t.r 3)] _ rfl⟩ ?_ (fun j _ h=>hG j _ _ _ hA h) (fun _ _ h=>h) (fun e=>absurd e (by decide)) (fun e=>absurd e (by decide)) (fun e=>absurd e (by decide))))
  ·simp [execOp,go_sem,e0]
  ·exact ⟨fun h=>(C.base.1 h).alloc hbs _,⟨C.base.2.os,C.base.2.tape,C.base.2.output,by simp;omega,fun q hq hne=>by rw [←C.base.2.block q hq hne];exact hA.block q (by omega)⟩⟩
 refine InvY.c (fun a1 vals w1 bl hbl hdf C K hK=>?_) ?_
 ·have e0:=C.v 5 129 rfl rfl;have y129:=C.i 5;rw [a_s] at y129;have e1:=C.v 19 143 rfl rfl;obtain ⟨g6,g1,g2,g3⟩:=C.says 19 rfl;have y143:vals 19=_:=List.head_eq_of_cons_eq g1;rw [y143] at e1;have hb1:=C.base.1 (hbl rfl);have hbs:=C.base.2.size;refine d_I rfl (.tmp 129) (.tmp 143) 31 rfl 0 101 j0 (.agg #[.int .i64 0,.int .i64 0,.int .i64 0,.int .i64 0,.int .i64 0,.int .i64 0]) 6 48 Tryz.underlying31 HJ.out.1 HJ.out.2.1 HJ.out.2.2.1 HJ.out.2.2.2 rfl (by decide) (.slice ea en ec) en es y129 (a_K HOW.out hb1) ⟨g6,0,none⟩ 1 1 [.int .i64 ra,.int .i64 k,.int .i64 (t.r 0),.int .i64 (t.r 1),.int .i64 (t.r 2),.int .i64 (t.r 3)] e1 rfl (fun j u hj=>by rw [Gen.add_plain,Nat.zero_add];exact (g3 j u hj).1) (by intro u hu;simp at hu;rcases hu with rfl | rfl | rfl | rfl | rfl | rfl <;> rfl) (by have:=HEN.out;unfold maxLen;omega) (by have:=HEN.out;omega) (Nat.zero_le _) (fun v2 w2 ho hg hblk=>?_);obtain ⟨fa,fc,rfl⟩:=c_U ho;refine hK _ _ ⟨fa,fc,rfl,ho,?_⟩ ?_ (fun j hj h=>?_) (fun _ _ h=>h) (fun e=>absurd e (by decide)) (fun e=>absurd e (by decide)) (fun e=>absurd e (by decide))
  ·rcases hblk with h | h
   ·exact .inl h
   ·exact .inr ⟨_,h,hbs⟩
  ·exact ⟨fun h=>absurd h (by decide),⟨hg.os.trans C.base.2.os,hg.tape.trans C.base.2.tape,hg.output.trans C.base.2.output,Nat.le_trans hbs hg.size,fun q hq hne=>(hg.block q (by omega) hne).trans (C.base.2.block q hq hne)⟩⟩
  ·by_cases hj3:j=19
   ·subst hj3;exact ⟨g6,g1,g2,c_j hg (fun h=>by have:=HOB.out g6 h;omega) g3⟩
   ·exact n_G _ _ _ _ _ _ _ _ _ _ _ _ _ _ _ hj3 hj h
 refine InvY.c (fun _ _ w1 _ hbl _ C _ hK=>oR C hK (h:=by simp [execOp,go_sem,C.i 0])) ?_;refine InvY.c (fun a1 vals w1 bl hbl hdf C K hK=>?_) ?_
 ·have e0:=C.isw 21 145 [] (.pointer (some ⟨g,0,none⟩)) rfl rfl rfl rfl;exact J71
 refine InvY.c (fun a1 vals w1 bl hbl hdf C K hK=>?_) ?_
 ·have e0:=C.isw 22 146 [21] (.pointer (some ⟨g,0,none⟩)) rfl rfl rfl rfl;refine a_d rfl (a_o (v:=.pointer (some ⟨g,6,none⟩)) ?_ (b_k hK C rfl rfl));simp [execOp,go_sem,e0]
 refine InvY.last (n:=24) ?_ ?_ ?_ ?_
 ·rfl
 ·kernel_rfl
 ·decide
 ·intro vals w1 aE hae hval hb hv hbo K hK;obtain ⟨fa,fc,h1,h2,h3⟩:=b_x (k:=20) rfl (hv 20 (by decide));have y144:vals 20=_:=List.head_eq_of_cons_eq h1;have y147:vals 23=.pointer (some ⟨g,6,none⟩):=d_C rfl (hv 23 (by decide));obtain ⟨bl,-,hgr⟩:=hb;have q1:=(hval 23 147 rfl rfl).trans y147;have q2:=(hval 20 144 rfl rfl).trans y144;have zz:w1.cell? ⟨g,6,none⟩=some (.slice ea en ec):=hgr.cell x6 HNE.out.1;have zf:w1.frozen? ⟨g,6,none⟩=false:=by rw [World.frozen?_of_block (w:=V) (hgr.block g (b_g x6) HNE.out.1)];exact f6
  refine a_d rfl (d_K (w':=w1.setCell ⟨g,6,none⟩ (.slice fa (en+1) fc)) ?_ (hK _ _ ?_))
  ·rw [←a_s] at q1 q2;simp [execOp,go_sem,q1,q2,zz,zf]
  rw [hae.out];simp only [b_Y,Act.put,sA,sB,sC,y144,y147];obtain ⟨U,hU⟩:=nm (w1.setCell ⟨g,6,none⟩ (.slice fa (en+1) fc))
  have HHU:=hid (show Wk (fun x=>Q x∧(Value.slice fa (en+1) fc).ownBlock≠some x) U g b (L.setEv ⟨fa,en+1,fc⟩) { X with ev:=X.ev++[(ra,(k:Int),t.r 0,t.r 1,t.r 2,t.r 3)] } k from by
   rw [hU];exact o_n HHV.out HEV.out hgr h2 h3 HFE.out)
  have HBU:=hid (show Bel Sx w U by rw [hU];exact (HBN.out.grown hgr (fun q hq=>HNO.out q hq)).setCell (p:=⟨g,6,none⟩) HNN.out.1 _);have HTU:=hid (show thW { X with ev:=X.ev++[(ra,(k:Int),t.r 0,t.r 1,t.r 2,t.r 3)] } k=t from HTT.out);rw [←hU];clear hv hbo y144 y147 hval hae h1 h2 h3 hU hgr q1 q2 zz zf;obtain ⟨fa2,fc2,la2,lc2,-,ht2⟩:=b_6 HHU.out;obtain ⟨p0,pf⟩:=ht2 0 _ rfl;have p0:U.cell? ⟨b,k*13,none⟩=some (.int .i64 (thW { X with ev:=X.ev++[(ra,(k:Int),t.r 0,t.r 1,t.r 2,t.r 3)] } k).pc):=p0;have pf:=N120;obtain ⟨pc,hpc2⟩:∃ p,(thW { X with ev:=X.ev++[(ra,(k:Int),t.r 0,t.r 1,t.r 2,t.r 3)] } k).pc=p:=⟨_,rfl⟩;rw [hpc2] at p0;have hwk:=N78
  have HHE:=hid (show Wk (fun x=>Q x∧(Value.slice fa (en+1) fc).ownBlock≠some x) (U.setCell ⟨b,k*13,none⟩ (.int .i64 (pc+1))) g b (L.setEv ⟨fa,en+1,fc⟩) (b_y { X with ev:=X.ev++[(ra,(k:Int),t.r 0,t.r 1,t.r 2,t.r 3)] } k (b_s (thW { X with ev:=X.ev++[(ra,(k:Int),t.r 0,t.r 1,t.r 2,t.r 3)] } k))) k from
   b_K HHU.out 0 (.int .i64 (pc+1)) (b_s (thW { X with ev:=X.ev++[(ra,(k:Int),t.r 0,t.r 1,t.r 2,t.r 3)] } k)) (by decide) (fun fa fc la lc T=>⟨fa,fc,la,lc,by rw [←hpc2];rfl,⟨T.fcap,T.fs,T.lcap,T.lf⟩⟩))
  have HBE:=N40;clear ht2 hpc2
  go_wp2
  first | go_ret | go_end0
  refine ⟨.inl ⟨rfl,rfl,(fun x=>Q x∧(Value.slice fa (en+1) fc).ownBlock≠some x),(L.setEv ⟨fa,en+1,fc⟩),?_⟩,HBE.out⟩;have HYE:=HHE;rw [←HY.out];rw [HTU.out] at HYE;exact HYE.out
end Go.Proofs.YtolabfafgbmdbaaGreatDoor
namespace Go.Proofs.YtolabfafgbmdbaaGreatDoor
open Go.ChangeShapes Go.WideShapes Go.ChangeAt Go.RowKit
open Gen
theorem h_x {g b:Nat} {Sx:Nat→Prop} {X Y Y':Wo} {k:Nat} {E:Int} {w w':World} {e:Ending} (h:E=0→Y=Y') (H:b_u g b Sx X Y k E w e w'):b_u g b Sx X Y' k E w e w':=by
 obtain ⟨(⟨h1,h2,Q',L',h3⟩ | h1),h4⟩:=H
 ·exact ⟨.inl ⟨h1,h2,Q',L',h h1▸h3⟩,h4⟩
 ·exact ⟨.inr h1,h4⟩
theorem p_D {t:Thr} {A v:Int} (h:0≤A):b_s (f_l t A.toNat v)=d_P t A v:=by
 have e:((A.toNat:Nat):Int)=A:=by omega
 simp only [b_s,f_l,d_P,e]
theorem i_0 {X Z:Wo} {k:Nat} {t:Thr} {A v:Int} {sw:List Int} (hk:k < X.th.length) (hA:0≤A) (hZ:b_y { X with ws:=sw } k (f_l t A.toNat v)=Z):b_y Z k (b_s (thW Z k))={ b_y X k (d_P t A v) with ws:=sw }:=by
 subst hZ;rw [e_g (show k < ({ X with ws:=sw }:Wo).th.length from hk),f_v,p_D hA];rfl
theorem i_c (Q:Nat→Prop) (g b:Nat) (Sx:Nat→Prop) (L:WoL) (X:Wo) (k:Nat) (i:Ins) (w:World) (H:Wk Q w g b L X k) (hN:Sx g∧Sx b) (hrw:a_5 X=true) (hmi:c_f i X.code.length=true) (hloc:¬ (1≤i.1∧i.1≤15)) (hwf:∀ j,j < 8→(Lit.int .i64 ((thW X k).r j)).wf=true) (hen:L.ev.n≤200000) (hno:∀ q,(Value.slice L.ev.a L.ev.n L.ev.c).ownBlock=some q→Sx q) :
  Calls Tryz.prog 94 #[.pointer (some ⟨g,0,none⟩),.agg #[.int .i64 i.1,.int .i64 i.2.1,.int .i64 i.2.2.1,.int .i64 i.2.2.2]] w (b_u g b Sx X (f_k X k (thW X k) i) k (f_r X k (thW X k) i) w):=by
 have hr27:=(d_7 hmi).1;obtain ⟨-,hm,hl,hone⟩:=b_I hrw;have hpc:=(oneW_iff.1 (hone _ (j_o H.hk))).1;have hb8:=(b_h hm).2.1;have hcase:i.1=0∨i.1=16∨i.1=17∨(i.1=18∨i.1=23)∨i.1=19∨i.1=20∨i.1=21∨i.1=22∨i.1=24∨i.1=25∨i.1=26:=by omega
 rcases hcase with h | h | h | h | h | h | h | h | h | h | h
 ·exact l_x Q g b Sx L X _ k i _ w H hN hpc h (by simp [f_r,h]) (by simp [f_k,h])
 ·obtain ⟨ha,hb,-⟩:=d_B hmi (by omega);exact l_A Q g b Sx L X _ k i _ w H hN hpc h ha hb (by rw [f_r,if_neg (by omega),if_pos h]) (by rw [f_k,if_neg (by omega),if_neg (by omega),if_pos h])
 ·obtain ⟨ha,hb,-⟩:=d_B hmi (by omega);exact l_B Q g b Sx L X _ k i _ w H hN hpc h ha hb (by rw [f_r,if_neg (by omega),if_neg (by omega),if_pos h]) (by rw [f_k,if_neg (by omega),if_neg (by omega),if_neg (by omega),if_pos h])
 ·exact l_z Q g b Sx L X _ k i _ w H hN hpc h (by rw [f_r,if_neg (by omega),if_neg (by omega),if_neg (by omega),if_neg (by omega),if_neg (by omega)]) (by rw [f_k,if_neg (by omega),if_neg (by omega),if_neg (by omega),if_neg (by omega),if_neg (by omega),if_neg (by omega),if_neg (by omega),if_neg (by omega)])
 ·obtain ⟨ha,hb,hc⟩:=d_B hmi (by omega);have hE:f_r X k (thW X k) i=b_4 X.ws X.ts X.D X.bs k 0 (rgt (thW X k) i.2.2.1):=by rw [f_r,if_neg (by omega),if_neg (by omega),if_neg (by omega),if_pos (by omega),h];rfl
  have hY:f_k X k (thW X k) i={ b_y X k (d_P (thW X k) i.2.1 (b_T X.ws X.ts (rgt (thW X k) i.2.2.1))) with ws:=b_5 X.ws X.ts 0 (rgt (thW X k) i.2.2.1) (rgt (thW X k) i.2.1) (rgt (thW X k) i.2.2.2) }:=by rw [f_k,if_neg (by omega),if_neg (by omega),if_neg (by omega),if_neg (by omega),if_pos (by omega),h];rfl
  rw [hE,hY];exact i_E Q g b Sx L X _ k i _ w H hN hpc h hwf ha hb (hc (by omega)) _ rfl rfl (i_0 H.hk ha.1 rfl)
 ·obtain ⟨ha,hb,hc⟩:=d_B hmi (by omega);have hE:f_r X k (thW X k) i=b_4 X.ws X.ts X.D X.bs k 1 (rgt (thW X k) i.2.2.1):=by rw [f_r,if_neg (by omega),if_neg (by omega),if_neg (by omega),if_pos (by omega),h];rfl
  have hY:f_k X k (thW X k) i={ b_y X k (d_P (thW X k) i.2.1 (b_T X.ws X.ts (rgt (thW X k) i.2.2.1))) with ws:=b_5 X.ws X.ts 1 (rgt (thW X k) i.2.2.1) (rgt (thW X k) i.2.1) (rgt (thW X k) i.2.2.2) }:=by rw [f_k,if_neg (by omega),if_neg (by omega),if_neg (by omega),if_neg (by omega),if_pos (by omega),h];rfl
  rw [hE,hY];exact i_F Q g b Sx L X _ k i _ w H hN hpc h hwf ha hb (hc (by omega)) _ rfl rfl (i_0 H.hk ha.1 rfl)
 ·obtain ⟨ha,hb,hc⟩:=d_B hmi (by omega);have hE:f_r X k (thW X k) i=b_4 X.ws X.ts X.D X.bs k 2 (rgt (thW X k) i.2.2.1):=by rw [f_r,if_neg (by omega),if_neg (by omega),if_neg (by omega),if_pos (by omega),h];rfl
  have hY:f_k X k (thW X k) i={ b_y X k (d_P (thW X k) i.2.1 (b_T X.ws X.ts (rgt (thW X k) i.2.2.1))) with ws:=b_5 X.ws X.ts 2 (rgt (thW X k) i.2.2.1) (rgt (thW X k) i.2.1) (rgt (thW X k) i.2.2.2) }:=by rw [f_k,if_neg (by omega),if_neg (by omega),if_neg (by omega),if_neg (by omega),if_pos (by omega),h];rfl
  rw [hE,hY];exact i_G Q g b Sx L X _ k i _ w H hN hpc h hwf ha hb (hc (by omega)) _ rfl rfl (i_0 H.hk ha.1 rfl)
 ·by_cases h0:(thW X k).lf.length=0
  ·exact l_C Q g b Sx L X _ k i _ w H hN hpc h (by rw [f_r,if_neg (by omega),if_neg (by omega),if_neg (by omega),if_neg (by omega),if_neg (by omega)]) h0 (by rw [f_k,if_neg (by omega),if_neg (by omega),if_neg (by omega),if_neg (by omega),if_neg (by omega),if_pos h,if_pos h0]) hb8.1 hb8.2
  ·exact l_D Q g b Sx L X _ k i _ w H hN hpc h (by rw [f_r,if_neg (by omega),if_neg (by omega),if_neg (by omega),if_neg (by omega),if_neg (by omega)]) h0 (by rw [f_k,if_neg (by omega),if_neg (by omega),if_neg (by omega),if_neg (by omega),if_neg (by omega),if_pos h,if_neg h0])
 ·obtain ⟨ha,hb,-⟩:=d_B hmi (by omega);have hE:f_r X k (thW X k) i=c_D X.ws X.ts (rgt (thW X k) i.2.1) (rgt (thW X k) i.2.2.1) 1:=by rw [f_r,if_neg (by omega),if_neg (by omega),if_neg (by omega),if_neg (by omega),if_pos (by omega),h];rfl
  have hY:f_k X k (thW X k) i={ b_y X k (b_s (thW X k)) with ts:=d_i X.ws X.ts (rgt (thW X k) i.2.1) (rgt (thW X k) i.2.2.1) 1 }:=by rw [f_k,if_neg (by omega),if_neg (by omega),if_neg (by omega),if_neg (by omega),if_neg (by omega),if_neg (by omega),if_pos (by omega),h];rfl
  rw [hE,hY];refine (i_H Q g b Sx L X _ k i _ w H hN hpc h hwf ha hb _ rfl rfl rfl).mono (fun e w' hh=>h_x (fun h0=>?_) hh);rw [d_t,if_pos h0];rfl
 ·obtain ⟨ha,hb,-⟩:=d_B hmi (by omega);have hE:f_r X k (thW X k) i=c_D X.ws X.ts (rgt (thW X k) i.2.1) (rgt (thW X k) i.2.2.1) 2:=by rw [f_r,if_neg (by omega),if_neg (by omega),if_neg (by omega),if_neg (by omega),if_pos (by omega),h];rfl
  have hY:f_k X k (thW X k) i={ b_y X k (b_s (thW X k)) with ts:=d_i X.ws X.ts (rgt (thW X k) i.2.1) (rgt (thW X k) i.2.2.1) 2 }:=by rw [f_k,if_neg (by omega),if_neg (by omega),if_neg (by omega),if_neg (by omega),if_neg (by omega),if_neg (by omega),if_pos (by omega),h];rfl
  rw [hE,hY];refine (i_I Q g b Sx L X _ k i _ w H hN hpc h hwf ha hb _ rfl rfl rfl).mono (fun e w' hh=>h_x (fun h0=>?_) hh);rw [d_t,if_pos h0];rfl
 ·exact l_y Q g b Sx L X _ k i _ w H hN hpc h (by rw [f_r,if_neg (by omega),if_neg (by omega),if_neg (by omega),if_neg (by omega),if_neg (by omega)]) hen hno (by rw [f_k,if_neg (by omega),if_neg (by omega),if_neg (by omega),if_neg (by omega),if_neg (by omega),if_neg (by omega),if_neg (by omega),if_pos h])
end Go.Proofs.YtolabfafgbmdbaaGreatDoor
namespace Go.Proofs.YtolabfafgbmdbaaGreatDoor
open Go.ChangeShapes Go.WideShapes Go.ChangeAt Go.RowKit
open Gen
open Lib (hid)
theorem h_P (t:Thr) (fa la:Option Addr) (fn fc ln lc:Nat) (w:World) (F:ThF w fa fn fc la ln lc t) (h1:fn≤1000) (h2:ln≤1000) :
  Calls Tryz.prog 117 #[.agg (thC t fa fn fc la ln lc).toArray] w (q_N t w):=by
 obtain ⟨W,hW⟩:=nm ((w.alloc (Obj.cells (thC t fa fn fc la ln lc).toArray 46)).alloc (Obj.cells thN.toArray 46));have X:=N24;have R:=N11;have hB:=N2;have hz:=N51;have C1:=F.fcap;have C2:=F.lcap;have S1:=e_h hB F.fs;have S2:=a_w (a_G hB) (o_M F.lf);have ⟨HX,HR,HB,HW,HZ⟩:=hh5 X R hB hW hz;clear hW X R hB F hz
 go_enter Tryz.func117,Tryz.ntmps117
 exact J0
end Go.Proofs.YtolabfafgbmdbaaGreatDoor
