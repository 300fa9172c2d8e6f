import Derived.Test.YtogdpojnbgeknaaGreatDoorT34
import Derived.Test.YtogdpojnbgeknaaGreatDoorT23
import Derived.Test.YtogdpojnbgeknaaGreatDoorT4
import Derived.Laws.Cover3
import Derived.Test.YtogdpojnbgeknaaGreatDoorT0
import Derived.Test.YtogdpojnbgeknaaGreatDoorT35
import Derived.Test.YtogdpojnbgeknaaGreatDoorT7
import Derived.Test.YtogdpojnbgeknaaGreatDoorT5
set_option maxRecDepth 100000
set_option maxHeartbeats 16000000
namespace Go.Proofs.YtogdpojnbgeknaaGreatDoor
open Go.ChangeShapes Go.WideShapes Go.ChangeAt Go.RowKit
open Gen
open Lib (hid)
theorem i_s {α:Type} {r:Rep α} {Q:Nat→Prop} {w:World}:∀ {ys:List α} {cs:List Value},d_s r Q w cs ys→d_s r (fun b=>Q b∧b < w.heap.size) w cs ys
 | [],_,h=>h
 | _::_,_,⟨c,d,e,h1,h2⟩=>⟨c,d,e,r.und h1,i_s h2⟩
theorem r_w {Q:Nat→Prop} {V w1:World} {g b:Nat} {L:WoL} {X:Wo} {k:Nat} {ea fa:Option Addr} {en ec fc:Nat} {es six:List Value} {e:Ev} (H:Wk Q V g b L X k) (hp:L.ev=⟨ea,en,ec⟩) (hg:V.grownBy w1 (Value.slice ea en ec).ownBlock)
  (ho:w1.ownsRow 0 101 6 (.slice fa (en+1) fc) (en+1) (es++six)) (hb:(Value.slice fa (en+1) fc).ownBlock=(Value.slice ea en ec).ownBlock∨∃ q,(Value.slice fa (en+1) fc).ownBlock=some q∧V.heap.size≤q) (hf:d_s repEv Q V es X.ev) (h6:six=j_j e:=by rfl) :
  Wk (fun x=>Q x∧(Value.slice fa (en+1) fc).ownBlock≠some x) (w1.setCell ⟨g,6,none⟩ (.slice fa (en+1) fc)) g b (L.setEv ⟨fa,en+1,fc⟩) { X with ev:=X.ev++[e] } k:=by
 have hevo:=H.evo;rw [hp] at hevo;have hlo:=H.lo.2;rw [hp] at hlo;have hgs:g < V.heap.size:=a_P H.x (by simp)
 have hbs:b < V.heap.size:=by
  obtain ⟨TC,h1,h2⟩:=H.tc;have h3:=b_f h2;have h4:repTh.k=13:=rfl;have h5:=H.hk;exact a_P h1 (by rw [h3,h4];omega)
 have hneg:(Value.slice fa (en+1) fc).ownBlock≠some g:=fun h=>by
  rcases hb with h1 | ⟨q,h1,h2⟩
  ·rw [h1] at h;exact (hevo g h).1 rfl
  ·rw [h1] at h;cases h;omega
 have hneb:(Value.slice fa (en+1) fc).ownBlock≠some b:=fun h=>by
  rcases hb with h1 | ⟨q,h1,h2⟩
  ·rw [h1] at h;exact (hevo b h).2.1 rfl
  ·rw [h1] at h;cases h;omega
 have hK1:Kept Q V w1:=c_Y hg (fun c hc h=>(hevo c h).2.2 hc);have hK:Kept Q V (w1.setCell ⟨g,6,none⟩ (.slice fa (en+1) fc)):=a_6 hK1 (a_T _ _ _ (fun c hc=>(H.hQ c hc).1))
 have hu:∀ c,Q c∧c < V.heap.size→Q c∧(Value.slice fa (en+1) fc).ownBlock≠some c:=fun c hc=>⟨hc.1,fun h=>by
  rcases hb with h1 | ⟨q,h1,h2⟩
  ·rw [h1] at h;exact (hevo c h).2.2 hc.1
  ·rw [h1] at h;cases h;omega⟩
 have hKu:Kept (fun c=>Q c∧c < V.heap.size) V (w1.setCell ⟨g,6,none⟩ (.slice fa (en+1) fc)):=fun b o v hq hv=>hK b o v hq.1 hv
 obtain ⟨TC,t1,t2⟩:=H.tc;have tx:a_p w1 g (wkC L X.D k):=b_A hg (fun h=>(hevo g h).1 rfl) H.x;have h6x:=a_A tx 6 (by simp) (.slice fa (en+1) fc);subst h6;refine ⟨h6x,H.hb,⟨TC,a_m (b_A hg (fun h=>(hevo b h).2.1 rfl) t1) H.hgb _,c_l hu (b_m hKu (i_s t2))⟩,b_e hu (a_z hKu (c_O H.co)),a_n hu (a_r hKu (d_T (fun _ q h=>⟨q,h⟩) H.ws)),a_n hu (a_r hKu (d_T (fun _ q h=>⟨q,h⟩) H.ts)),a_H hu (a_G hKu (f_1 (fun _ q h=>⟨q,h⟩) H.bs)),⟨es++j_j e,?_,?_⟩,?_,H.cco,H.cth,?_,H.hk,H.hn,fun c hc=>H.hQ c hc.1,H.hgb,fun c hc=>?_,fun c hc=>H.lo.1 c hc.1,fun c hc=>?_⟩
 ·exact a_Z (us:=[.slice fa (en+1) fc]) (k:=6) hneg ho
 ·exact e_J (r:=repEv) rfl (c_l hu (b_m hKu (i_s hf)))
 ·exact fun c hc=>⟨fun e=>hneg (e▸hc),fun e=>hneb (e▸hc),fun h=>h.2 hc⟩
 ·obtain ⟨a2,c2,e2,k1,k2,k3,-⟩:=e_v (r:=repEv) (Q:=Any) ho (show d_s repEv Any w1 (es++j_j e) (X.ev++[e]) from e_J (r:=repEv) rfl (c_l (fun _ _=>trivial) (b_m hK1 hf))) (fun _ _ _=>trivial)
  cases e2
  exact ⟨k1,k2,k3⟩
 ·have hs:w1.heap.size≤c:=by simpa using hc
  exact ⟨H.new c (Nat.le_trans hg.size hs),fun h=>by have:=(a_9 ho h).2;omega⟩
 ·have hc':(Value.slice fa (en+1) fc).ownBlock=some c:=hc
  rcases hb with h1 | ⟨q,h1,h2⟩
  ·rw [h1] at hc';exact hlo c hc'
  ·rw [h1] at hc';cases hc';omega
def p_Y (h:Nat) (V:World) (g b k:Nat) (ra:Int) (t:Thr) (ea:Option Addr) (en ec:Nat) (es:List Value):b_p:=[isV 0 (.pointer (some ⟨g,0,none⟩)),isV 1 (.pointer (some ⟨g,0,none⟩)),isV 2 (.pointer (some ⟨g,0,none⟩)),isV 3 (.pointer (some ⟨g,0,none⟩)),isV 4 (.pointer (some ⟨g,6,none⟩)),isV 5 (.slice ea en ec),isV 6 (.pointer (some ⟨h,1,none⟩)),isV 7 (.int .i64 ra),isV 8 (.pointer (some ⟨g,0,none⟩)),isV 9 (.pointer (some ⟨g,0,none⟩)),isV 10 (.pointer (some ⟨g,7,none⟩)),isV 11 (.int .i64 k),isV 12 (.pointer (some ⟨b,k*13,none⟩)),isV 13 (.pointer (some ⟨b,k*13,none⟩)),isV 14 (.pointer (some ⟨b,k*13+1,none⟩)),isV 15 (.slice (some ⟨b,k*13+1,none⟩) 4 8),isV 16 (.pointer (some ⟨b,k*13+1,none⟩)),isV 17 (.agg #[.int .i64 (t.r 0),.int .i64 (t.r 1),.int .i64 (t.r 2),.int .i64 (t.r 3)]),isV 18 (.agg #[.int .i64 ra,.int .i64 k,.int .i64 (t.r 0),.int .i64 (t.r 1),.int .i64 (t.r 2),.int .i64 (t.r 3)]),([19],fun vz w=>∃ g6,vz=[.slice (some ⟨g6,0,none⟩) 1 1]∧V.heap.size≤g6∧a_p w g6 [.int .i64 ra,.int .i64 k,.int .i64 (t.r 0),.int .i64 (t.r 1),.int .i64 (t.r 2),.int .i64 (t.r 3)]),([20],fun vz w=>∃ fa fc,vz=[.slice fa (en+1) fc]∧w.ownsRow 0 101 6 (.slice fa (en+1) fc) (en+1) (es++[.int .i64 ra,.int .i64 k,.int .i64 (t.r 0),.int .i64 (t.r 1),.int .i64 (t.r 2),.int .i64 (t.r 3)])∧((Value.slice fa (en+1) fc).ownBlock=(Value.slice ea en ec).ownBlock∨∃ q,(Value.slice fa (en+1) fc).ownBlock=some q∧V.heap.size≤q)),isW 21 [] (.pointer (some ⟨g,0,none⟩)),isW 22 [21] (.pointer (some ⟨g,0,none⟩)),isW 23 [22,21] (.pointer (some ⟨g,6,none⟩))]
theorem o_e (h:Nat) (V:World) (g b k:Nat) (ra:Int) (t:Thr) (ea:Option Addr) (en ec:Nat) (es:List Value):c_j (p_Y h  V  g b k  ra  t  ea  en ec  es ):=a_d<|a_d<|a_d<|a_d<|a_d<|a_d<|a_d<|a_d<|a_d<|a_d<|a_d<|a_d<|a_d<|a_d<|a_d<|a_d<|a_d<|a_d<|a_d<|a_v (fun _ _ _ hb h=>by obtain ⟨g6,h1,h2,h3⟩:=h;exact ⟨g6,h1,h2,a_i hb h3⟩)<|a_v (fun _ _ _ hb h=>by obtain ⟨fa,fc,h1,h2,h3⟩:=h;exact ⟨fa,fc,h1,a_8 h2 hb,h3⟩)<|a_3<|a_3<|a_3<|b_u
theorem q_k (h:Nat) (V:World) (g b k:Nat) (ra:Int) (t:Thr) (ea:Option Addr) (en ec:Nat) (es:List Value):∀ jz args wz wz',jz≠19→jz≠20→b_x (p_Y h  V  g b k  ra  t  ea  en ec  es ) jz args wz→b_x (p_Y h  V  g b k  ra  t  ea  en ec  es ) jz args wz':=by
 intro jz args wz wz' n0 n1 h
 match jz with
 | 0=>exact h
 | 1=>exact h
 | 2=>exact h
 | 3=>exact h
 | 4=>exact h
 | 5=>exact h
 | 6=>exact h
 | 7=>exact h
 | 8=>exact h
 | 9=>exact h
 | 10=>exact h
 | 11=>exact h
 | 12=>exact h
 | 13=>exact h
 | 14=>exact h
 | 15=>exact h
 | 16=>exact h
 | 17=>exact h
 | 18=>exact h
 | 19=>exact absurd rfl n0
 | 20=>exact absurd rfl n1
 | 21=>exact h
 | 22=>exact h
 | 23=>exact h
 | _+24=>exact trivial
theorem n_W (Q:Nat→Prop) (g b:Nat) (Sx:Nat→Prop) (L:WoL) (X Y:Wo) (k:Nat) (i:Ins) (E:Int) (w:World) (H:Wk Q w g b L X k) (hN:Sx g∧Sx b) (hpc:0≤(thW X k).pc∧(thW X k).pc≤1000) (ho:i.1=26) (hE:E=0) (hen:L.ev.n≤200000) (hno:∀ q,(Value.slice L.ev.a L.ev.n L.ev.c).ownBlock=some q→Sx q) (hY:{ b_j X k (b_h (thW X k)) with ev:=X.ev++[(i.2.1,(k:Int),(thW X k).r 0,(thW X k).r 1,(thW X k).r 2,(thW X k).r 3)] }=Y) :
  Calls Tryz.prog 94 #[.pointer (some ⟨g,0,none⟩),.agg #[.int .i64 i.1,.int .i64 i.2.1,.int .i64 i.2.2.1,.int .i64 i.2.2.2]] w (c_c g b Sx X Y k E w):=by
 obtain ⟨op,ra,rb,rc⟩:=i;simp only at *;obtain ⟨W,hW⟩:=nm (w.alloc (Obj.cells (inC (op,ra,rb,rc)).toArray 66));have HI:=N21;have HB:=N3
 have HGS:=hid (show g < w.heap.size∧b < w.heap.size from ⟨a_P H.x (by simp),by
  obtain ⟨TC,h1,h2⟩:=H.tc;have h3:=b_f h2;have h4:repTh.k=13:=rfl;have h5:=H.hk;exact a_P h1 (by rw [h3,h4];omega)⟩)
 have HH:=hid (d_u HB.out H);have HH0:=hid H;have HC:=N57;obtain ⟨t,htt⟩:=mn (thW X k);rw [htt] at hpc hY;have ⟨HTT,HNN,HPC,HW⟩:=hh4 htt hN hpc hW;subst ho hE;have ⟨HY,HEN0,HNO0⟩:=hh3 hY hen hno;clear hY hen hno htt;clear hW H hN hpc
 go_enter Tryz.func94,Tryz.ntmps94
 go_upto_region 1 with fail
 rw [←HW.out]
 go_wp2_with fail
 refine HC.out.mono ?_;rintro e1 V ⟨rfl,m,hm⟩;have HB1:=N15;clear HC hm;have HHV:=hid (d_u HB1.out HH.out);have HIV:=hid (a_i HB1.out HI.out);have HBV:=hid (a_b HB.out HB1.out);have HBN:=N46;clear HB HB1 HH HI HW;obtain ⟨y0,-⟩:=HIV.out 0 _ rfl;obtain ⟨p,hp⟩:=mn (L.ev);obtain ⟨ea,en,ec⟩:=p;have HEV:=hid hp;have HEN:=hid (show en≤200000 by have:=HEN0.out;rw [hp] at this;exact this);have HNO:=hid (show ∀ q,(Value.slice ea en ec).ownBlock=some q→Sx q by have:=HNO0.out;rw [hp] at this;exact this);obtain ⟨es,how,hfe⟩:=HHV.out.ev;have hevo:=HHV.out.evo;rw [hp] at how hevo;have ⟨HOW,HFE⟩:=hh2 how hfe;have HOB:=hid (show ∀ q,(Value.slice ea en ec).ownBlock=some q→q < V.heap.size from fun q hq=>(a_9 how hq).2)
 have HNE:=hid (show some g≠(Value.slice ea en ec).ownBlock∧some b≠(Value.slice ea en ec).ownBlock∧some w.heap.size≠(Value.slice ea en ec).ownBlock from ⟨fun h=>(hevo g h.symm).1 rfl,fun h=>(hevo b h.symm).2.1 rfl,fun h=>by
  obtain ⟨es0,how0,-⟩:=HH0.out.ev;rw [hp] at how0;have:=(a_9 how0 h.symm).2;omega⟩)
 obtain ⟨j0,ki,kz0,kz1,kz2⟩:=info_parts o_o;have HJ:=N72;obtain ⟨x6,f6⟩:=HHV.out.x 6 _ rfl;obtain ⟨x7,-⟩:=HHV.out.x 7 _ rfl;rw [hp] at x6;obtain ⟨y1,-⟩:=HIV.out 1 _ rfl
 have HR4:=hid (show V.rangeAt b (k*13+1) [.int .i64 (t.r 0),.int .i64 (t.r 1),.int .i64 (t.r 2),.int .i64 (t.r 3)] from fun j v hj=>by
  have h:=l_h HHV.out;rw [HTT.out] at h;refine h j v ?_
  match j,hj with
  | 0,hj=>exact hj
  | 1,hj=>exact hj
  | 2,hj=>exact hj
  | 3,hj=>exact hj)
 clear how hfe hevo hp ki kz0 kz1 kz2 HEN0 HNO0;have hG:=o_e w.heap.size V g b k ra t ea en ec es
 go_wp2_with fail
 clear y0;refine h_K 24 20 rfl [some 124,some 125,some 126,some 127,some 128,some 129,some 130,some 131,some 132,some 133,some 134,some 135,some 136,some 137,some 138,some 139,some 140,some 141,some 142,some 143,some 144,some 145,some 146,some 147] (fun bl w'=>(bl=false→Below V.heap.size V w')∧V.grownBy w' (Value.slice ea en ec).ownBlock) (p_Y w.heap.size V g b k ra t ea en ec es) 100 100 (fun _ _ _=>True) (by kernel_rfl) (by kernel_rfl) (by decide) rfl rfl (⟨fun _=>(Below.refl _ _).drew,⟨rfl,rfl,rfl,Nat.le_refl _,fun _ _ _=>rfl⟩⟩) ?_
 show StepsL _ _ _ _ _ _ _
 refine InvY.c (fun _ _ w1 _ hbl _ C _ hK=>oR C hK (h:=by simp [execOp,go_sem,C.o 0 (.pointer (some ⟨g,0,none⟩))])) ?_;refine InvY.c (fun _ _ w1 _ hbl _ C _ hK=>oR C hK (h:=by simp [execOp,go_sem,C.o 0 (.pointer (some ⟨g,0,none⟩))])) ?_;refine InvY.c (fun _ _ w1 _ hbl _ C _ hK=>oR C hK (h:=by simp [execOp,go_sem,C.i 1])) ?_;refine InvY.c (fun _ _ w1 _ hbl _ C _ hK=>oR C hK (h:=by simp [execOp,go_sem,C.i 2])) ?_;refine InvY.c (fun _ _ w1 _ hbl _ C _ hK=>oR C hK (h:=by simp [execOp,go_sem,C.i 3])) ?_;refine InvY.c (fun a1 vals w1 bl hbl hdf C K hK=>?_) ?_
 ·have e0:=C.i 4;have kc:=C.base.2.cell x6 HNE.out.1;refine a_g rfl (a_x (v:=.slice ea en ec) ?_ (c_Q hK C rfl rfl));simp [execOp,go_sem,e0,kc]
 refine InvY.c (fun _ _ w1 _ hbl _ C _ hK=>oR C hK (h:=by simp [execOp,go_sem,C.o 3 (.pointer (some ⟨w.heap.size,0,none⟩))])) ?_;refine InvY.c (fun a1 vals w1 bl hbl hdf C K hK=>?_) ?_
 ·have e0:=C.i 6;have kc:=C.base.2.cell y1 HNE.out.2.2;refine a_g rfl (a_x (v:=.int .i64 ra) ?_ (c_Q hK C rfl rfl));simp [execOp,go_sem,e0,kc]
 refine InvY.c (fun _ _ w1 _ hbl _ C _ hK=>oR C hK (h:=by simp [execOp,go_sem,C.o 0 (.pointer (some ⟨g,0,none⟩))])) ?_;refine InvY.c (fun _ _ w1 _ hbl _ C _ hK=>oR C hK (h:=by simp [execOp,go_sem,C.i 8])) ?_;refine InvY.c (fun _ _ w1 _ hbl _ C _ hK=>oR C hK (h:=by simp [execOp,go_sem,C.i 9])) ?_;refine InvY.c (fun a1 vals w1 bl hbl hdf C K hK=>?_) ?_
 ·have e0:=C.i 10;have kc:=C.base.2.cell x7 HNE.out.1;refine a_g rfl (a_x (v:=.int .i64 k) ?_ (c_Q hK C rfl rfl));simp [execOp,go_sem,e0,kc]
 refine InvY.c (fun _ _ w1 _ hbl _ C _ hK=>oR C hK (h:=by simp [execOp,go_sem,C.o 4 (.pointer (some ⟨b,k*13,none⟩))])) ?_;refine InvY.c (fun _ _ w1 _ hbl _ C _ hK=>oR C hK (h:=by simp [execOp,go_sem,C.i 12])) ?_;refine InvY.c (fun _ _ w1 _ hbl _ C _ hK=>oR C hK (h:=by simp [execOp,go_sem,C.i 13])) ?_;refine InvY.c (fun _ _ w1 _ hbl _ C _ hK=>oR C hK (h:=by simp [execOp,go_sem,C.i 14])) ?_;refine InvY.c (fun _ _ w1 _ hbl _ C _ hK=>oR C hK (h:=by simp [execOp,go_sem,C.i 15,run_arrayAt w1 99 _ 4 (some ⟨b,k*13+1,none⟩) 4 8 Tryz.underlying99 (by decide)])) ?_;refine InvY.c (fun a1 vals w1 bl hbl hdf C K hK=>?_) ?_
 ·have e0:=C.i 16;exact a_g rfl (wp_load_mid 99 _ rfl (b) (k*13+1) ((a_M a1 _).symm.trans e0) [.int .i64 (t.r 0),.int .i64 (t.r 1),.int .i64 (t.r 2),.int .i64 (t.r 3)] _ (fun j v hj=>C.base.2.cell (HR4.out j v hj) HNE.out.2.1) Tryz.underlying99 rfl (by kernel_rfl) (c_Q hK C rfl rfl))
 refine InvY.c (fun _ _ w1 _ hbl _ C _ hK=>oR C hK (h:=by simp [execOp,go_sem,C.i 7,C.i 11,C.i 17])) ?_;refine InvY.c (fun a1 vals w1 bl hbl hdf C K hK=>?_) ?_
 ·have e0:=C.i 18;have hA:Below w1.heap.size w1 (w1.alloc (Obj.cells #[.int .i64 ra,.int .i64 k,.int .i64 (t.r 0),.int .i64 (t.r 1),.int .i64 (t.r 2),.int .i64 (t.r 3)] 101)):=(Below.refl _ _).alloc (Nat.le_refl _) _;have hbs:=C.base.2.size;refine a_g rfl (a_x (v:=.slice (some ⟨w1.heap.size,0,none⟩) 1 1) (w':=w1.alloc (Obj.cells #[.int .i64 ra,.int .i64 k,.int .i64 (t.r 0),.int .i64 (t.r 1),.int .i64 (t.r 2),.int .i64 (t.r 3)] 101)) ?_ (hK _ _ ⟨w1.heap.size,rfl,hbs,a_e [.int .i64 ra,.int .i64 k,.int .i64 (t.r 0),.int .i64 (t.r 1),.int .i64 (t.r 2),.int .i64 (t.r 3)] _ rfl⟩ ?_ (fun j _ h=>hG j _ _ _ hA h) (fun _ _ h=>h) (fun e=>absurd e (by decide)) (fun e=>absurd e (by decide)) (fun e=>absurd e (by decide))))
  ·simp [execOp,go_sem,e0]
  ·exact ⟨fun h=>(C.base.1 h).alloc hbs _,⟨C.base.2.os,C.base.2.tape,C.base.2.output,by simp;omega,fun q hq hne=>by rw [←C.base.2.block q hq hne];exact hA.block q (by omega)⟩⟩
 refine InvY.c (fun a1 vals w1 bl hbl hdf C K hK=>?_) ?_
 ·have e0:=C.v 5 129 rfl rfl;have y129:=C.i 5;rw [a_M] at y129;have e1:=C.v 19 143 rfl rfl;obtain ⟨g6,g1,g2,g3⟩:=C.says 19 rfl;have y143:vals 19=_:=List.head_eq_of_cons_eq g1;rw [y143] at e1;have hb1:=C.base.1 (hbl rfl);have hbs:=C.base.2.size;refine e_Y rfl (.tmp 129) (.tmp 143) 31 rfl 0 101 j0 (.agg #[.int .i64 0,.int .i64 0,.int .i64 0,.int .i64 0,.int .i64 0,.int .i64 0]) 6 48 Tryz.underlying31 HJ.out.1 HJ.out.2.1 HJ.out.2.2.1 HJ.out.2.2.2 rfl (by decide) (.slice ea en ec) en es y129 (a_8 HOW.out hb1) ⟨g6,0,none⟩ 1 1 [.int .i64 ra,.int .i64 k,.int .i64 (t.r 0),.int .i64 (t.r 1),.int .i64 (t.r 2),.int .i64 (t.r 3)] e1 rfl (fun j u hj=>by rw [Gen.add_plain,Nat.zero_add];exact (g3 j u hj).1) (by intro u hu;simp at hu;rcases hu with rfl | rfl | rfl | rfl | rfl | rfl <;> rfl) (by have:=HEN.out;unfold maxLen;omega) (by have:=HEN.out;omega) (Nat.zero_le _) (fun v2 w2 ho hg hblk=>?_);obtain ⟨fa,fc,rfl⟩:=c_D ho;refine hK _ _ ⟨fa,fc,rfl,ho,?_⟩ ?_ (fun j hj h=>?_) (fun _ _ h=>h) (fun e=>absurd e (by decide)) (fun e=>absurd e (by decide)) (fun e=>absurd e (by decide))
  ·rcases hblk with h | h
   ·exact .inl h
   ·exact .inr ⟨_,h,hbs⟩
  ·exact ⟨fun h=>absurd h (by decide),⟨hg.os.trans C.base.2.os,hg.tape.trans C.base.2.tape,hg.output.trans C.base.2.output,Nat.le_trans hbs hg.size,fun q hq hne=>(hg.block q (by omega) hne).trans (C.base.2.block q hq hne)⟩⟩
  ·by_cases hj3:j=19
   ·subst hj3;exact ⟨g6,g1,g2,b_A hg (fun h=>by have:=HOB.out g6 h;omega) g3⟩
   ·exact q_k _ _ _ _ _ _ _ _ _ _ _ _ _ _ _ hj3 hj h
 refine InvY.c (fun _ _ w1 _ hbl _ C _ hK=>oR C hK (h:=by simp [execOp,go_sem,C.i 0])) ?_;refine InvY.c (fun a1 vals w1 bl hbl hdf C K hK=>?_) ?_
 ·have e0:=C.isw 21 145 [] (.pointer (some ⟨g,0,none⟩)) rfl rfl rfl rfl;exact J81
 refine InvY.c (fun a1 vals w1 bl hbl hdf C K hK=>?_) ?_
 ·have e0:=C.isw 22 146 [21] (.pointer (some ⟨g,0,none⟩)) rfl rfl rfl rfl;refine a_g rfl (a_x (v:=.pointer (some ⟨g,6,none⟩)) ?_ (c_Q hK C rfl rfl));simp [execOp,go_sem,e0]
 refine InvY.last (n:=24) ?_ ?_ ?_ ?_
 ·rfl
 ·kernel_rfl
 ·decide
 ·intro vals w1 aE hae hval hb hv hbo K hK;obtain ⟨fa,fc,h1,h2,h3⟩:=c_f (k:=20) rfl (hv 20 (by decide));have y144:vals 20=_:=List.head_eq_of_cons_eq h1;have y147:vals 23=.pointer (some ⟨g,6,none⟩):=e_L rfl (hv 23 (by decide));obtain ⟨bl,-,hgr⟩:=hb;have q1:=(hval 23 147 rfl rfl).trans y147;have q2:=(hval 20 144 rfl rfl).trans y144;have zz:w1.cell? ⟨g,6,none⟩=some (.slice ea en ec):=hgr.cell x6 HNE.out.1;have zf:w1.frozen? ⟨g,6,none⟩=false:=by rw [World.frozen?_of_block (w:=V) (hgr.block g (b_P x6) HNE.out.1)];exact f6
  refine a_g rfl (g_m (w':=w1.setCell ⟨g,6,none⟩ (.slice fa (en+1) fc)) ?_ (hK _ _ ?_))
  ·rw [←a_M] at q1 q2;simp [execOp,go_sem,q1,q2,zz,zf]
  rw [hae.out];simp only [c_I,Act.put,sA,sB,sC,y144,y147];obtain ⟨U,hU⟩:=nm (w1.setCell ⟨g,6,none⟩ (.slice fa (en+1) fc))
  have HHU:=hid (show Wk (fun x=>Q x∧(Value.slice fa (en+1) fc).ownBlock≠some x) U g b (L.setEv ⟨fa,en+1,fc⟩) { X with ev:=X.ev++[(ra,(k:Int),t.r 0,t.r 1,t.r 2,t.r 3)] } k from by
   rw [hU];exact r_w HHV.out HEV.out hgr h2 h3 HFE.out)
  have HBU:=hid (show Bel Sx w U by rw [hU];exact (HBN.out.grown hgr (fun q hq=>HNO.out q hq)).setCell (p:=⟨g,6,none⟩) HNN.out.1 _);have HTU:=hid (show thW { X with ev:=X.ev++[(ra,(k:Int),t.r 0,t.r 1,t.r 2,t.r 3)] } k=t from HTT.out);rw [←hU];clear hv hbo y144 y147 hval hae h1 h2 h3 hU hgr q1 q2 zz zf;obtain ⟨fa2,fc2,la2,lc2,-,ht2⟩:=c_1 HHU.out;obtain ⟨p0,pf⟩:=ht2 0 _ rfl;have p0:U.cell? ⟨b,k*13,none⟩=some (.int .i64 (thW { X with ev:=X.ev++[(ra,(k:Int),t.r 0,t.r 1,t.r 2,t.r 3)] } k).pc):=p0;have pf:=N244;obtain ⟨pc,hpc2⟩:∃ p,(thW { X with ev:=X.ev++[(ra,(k:Int),t.r 0,t.r 1,t.r 2,t.r 3)] } k).pc=p:=⟨_,rfl⟩;rw [hpc2] at p0;have hwk:=N181
  have HHE:=hid (show Wk (fun x=>Q x∧(Value.slice fa (en+1) fc).ownBlock≠some x) (U.setCell ⟨b,k*13,none⟩ (.int .i64 (pc+1))) g b (L.setEv ⟨fa,en+1,fc⟩) (b_j { X with ev:=X.ev++[(ra,(k:Int),t.r 0,t.r 1,t.r 2,t.r 3)] } k (b_h (thW { X with ev:=X.ev++[(ra,(k:Int),t.r 0,t.r 1,t.r 2,t.r 3)] } k))) k from
   c_z HHU.out 0 (.int .i64 (pc+1)) (b_h (thW { X with ev:=X.ev++[(ra,(k:Int),t.r 0,t.r 1,t.r 2,t.r 3)] } k)) (by decide) (fun fa fc la lc T=>⟨fa,fc,la,lc,by rw [←hpc2];rfl,⟨T.fcap,T.fs,T.lcap,T.lf⟩⟩))
  have HBE:=N99;clear ht2 hpc2
  go_wp2
  first | go_ret | go_end0
  refine ⟨.inl ⟨rfl,rfl,(fun x=>Q x∧(Value.slice fa (en+1) fc).ownBlock≠some x),(L.setEv ⟨fa,en+1,fc⟩),?_⟩,HBE.out⟩;have HYE:=HHE;rw [←HY.out];rw [HTU.out] at HYE;exact HYE.out
end Go.Proofs.YtogdpojnbgeknaaGreatDoor
namespace Go.Proofs.YtogdpojnbgeknaaGreatDoor
open Go.ChangeShapes Go.WideShapes Go.ChangeAt Go.RowKit
open Gen
theorem i_4 {g b:Nat} {Sx:Nat→Prop} {X Y Y':Wo} {k:Nat} {E:Int} {w w':World} {e:Ending} (h:E=0→Y=Y') (H:c_c g b Sx X Y k E w e w'):c_c g b Sx X Y' k E w e w':=by
 obtain ⟨(⟨h1,h2,Q',L',h3⟩ | h1),h4⟩:=H
 ·exact ⟨.inl ⟨h1,h2,Q',L',h h1▸h3⟩,h4⟩
 ·exact ⟨.inr h1,h4⟩
theorem s_P {t:Thr} {A v:Int} (h:0≤A):b_h (g_A t A.toNat v)=c_Z t A v:=by
 have e:((A.toNat:Nat):Int)=A:=by omega
 simp only [b_h,g_A,c_Z,e]
theorem k_J {X Z:Wo} {k:Nat} {t:Thr} {A v:Int} {sw:List Int} (hk:k < X.th.length) (hA:0≤A) (hZ:b_j { X with ws:=sw } k (g_A t A.toNat v)=Z):b_j Z k (b_h (thW Z k))={ b_j X k (c_Z t A v) with ws:=sw }:=by
 subst hZ;rw [f_A (show k < ({ X with ws:=sw }:Wo).th.length from hk),g_K,s_P hA];rfl
theorem j_K (Q:Nat→Prop) (g b:Nat) (Sx:Nat→Prop) (L:WoL) (X:Wo) (k:Nat) (i:Ins) (w:World) (H:Wk Q w g b L X k) (hN:Sx g∧Sx b) (hrw:b_i X=true) (hmi:c_M i X.code.length=true) (hloc:¬ (1≤i.1∧i.1≤15)) (hwf:∀ j,j < 8→(Lit.int .i64 ((thW X k).r j)).wf=true) (hen:L.ev.n≤200000) (hno:∀ q,(Value.slice L.ev.a L.ev.n L.ev.c).ownBlock=some q→Sx q) :
  Calls Tryz.prog 94 #[.pointer (some ⟨g,0,none⟩),.agg #[.int .i64 i.1,.int .i64 i.2.1,.int .i64 i.2.2.1,.int .i64 i.2.2.2]] w (c_c g b Sx X (d_5 X k (thW X k) i) k (d_f X k (thW X k) i) w):=by
 have hr27:=(d_N hmi).1;obtain ⟨-,hm,hl,hone⟩:=a_N hrw;have hpc:=(oneW_iff.1 (hone _ (g_h H.hk))).1;have hb8:=(a_X hm).2.1;have hcase:i.1=0∨i.1=16∨i.1=17∨(i.1=18∨i.1=23)∨i.1=19∨i.1=20∨i.1=21∨i.1=22∨i.1=24∨i.1=25∨i.1=26:=by omega
 rcases hcase with h | h | h | h | h | h | h | h | h | h | h
 ·exact n_V Q g b Sx L X _ k i _ w H hN hpc h (by simp [d_f,h]) (by simp [d_5,h])
 ·obtain ⟨ha,hb,-⟩:=c_4 hmi (by omega);exact n_Y Q g b Sx L X _ k i _ w H hN hpc h ha hb (by rw [d_f,if_neg (by omega),if_pos h]) (by rw [d_5,if_neg (by omega),if_neg (by omega),if_pos h])
 ·obtain ⟨ha,hb,-⟩:=c_4 hmi (by omega);exact n_Z Q g b Sx L X _ k i _ w H hN hpc h ha hb (by rw [d_f,if_neg (by omega),if_neg (by omega),if_pos h]) (by rw [d_5,if_neg (by omega),if_neg (by omega),if_neg (by omega),if_pos h])
 ·exact n_X Q g b Sx L X _ k i _ w H hN hpc h (by rw [d_f,if_neg (by omega),if_neg (by omega),if_neg (by omega),if_neg (by omega),if_neg (by omega)]) (by rw [d_5,if_neg (by omega),if_neg (by omega),if_neg (by omega),if_neg (by omega),if_neg (by omega),if_neg (by omega),if_neg (by omega),if_neg (by omega)])
 ·obtain ⟨ha,hb,hc⟩:=c_4 hmi (by omega);have hE:d_f X k (thW X k) i=b_v X.ws X.ts X.D X.bs k 0 (rgt (thW X k) i.2.2.1):=by rw [d_f,if_neg (by omega),if_neg (by omega),if_neg (by omega),if_pos (by omega),h];rfl
  have hY:d_5 X k (thW X k) i={ b_j X k (c_Z (thW X k) i.2.1 (b_K X.ws X.ts (rgt (thW X k) i.2.2.1))) with ws:=b_w X.ws X.ts 0 (rgt (thW X k) i.2.2.1) (rgt (thW X k) i.2.1) (rgt (thW X k) i.2.2.2) }:=by rw [d_5,if_neg (by omega),if_neg (by omega),if_neg (by omega),if_neg (by omega),if_pos (by omega),h];rfl
  rw [hE,hY];exact k_k Q g b Sx L X _ k i _ w H hN hpc h hwf ha hb (hc (by omega)) _ rfl rfl (k_J H.hk ha.1 rfl)
 ·obtain ⟨ha,hb,hc⟩:=c_4 hmi (by omega);have hE:d_f X k (thW X k) i=b_v X.ws X.ts X.D X.bs k 1 (rgt (thW X k) i.2.2.1):=by rw [d_f,if_neg (by omega),if_neg (by omega),if_neg (by omega),if_pos (by omega),h];rfl
  have hY:d_5 X k (thW X k) i={ b_j X k (c_Z (thW X k) i.2.1 (b_K X.ws X.ts (rgt (thW X k) i.2.2.1))) with ws:=b_w X.ws X.ts 1 (rgt (thW X k) i.2.2.1) (rgt (thW X k) i.2.1) (rgt (thW X k) i.2.2.2) }:=by rw [d_5,if_neg (by omega),if_neg (by omega),if_neg (by omega),if_neg (by omega),if_pos (by omega),h];rfl
  rw [hE,hY];exact k_l Q g b Sx L X _ k i _ w H hN hpc h hwf ha hb (hc (by omega)) _ rfl rfl (k_J H.hk ha.1 rfl)
 ·obtain ⟨ha,hb,hc⟩:=c_4 hmi (by omega);have hE:d_f X k (thW X k) i=b_v X.ws X.ts X.D X.bs k 2 (rgt (thW X k) i.2.2.1):=by rw [d_f,if_neg (by omega),if_neg (by omega),if_neg (by omega),if_pos (by omega),h];rfl
  have hY:d_5 X k (thW X k) i={ b_j X k (c_Z (thW X k) i.2.1 (b_K X.ws X.ts (rgt (thW X k) i.2.2.1))) with ws:=b_w X.ws X.ts 2 (rgt (thW X k) i.2.2.1) (rgt (thW X k) i.2.1) (rgt (thW X k) i.2.2.2) }:=by rw [d_5,if_neg (by omega),if_neg (by omega),if_neg (by omega),if_neg (by omega),if_pos (by omega),h];rfl
  rw [hE,hY];exact k_m Q g b Sx L X _ k i _ w H hN hpc h hwf ha hb (hc (by omega)) _ rfl rfl (k_J H.hk ha.1 rfl)
 ·by_cases h0:(thW X k).lf.length=0
  ·exact n_0 Q g b Sx L X _ k i _ w H hN hpc h (by rw [d_f,if_neg (by omega),if_neg (by omega),if_neg (by omega),if_neg (by omega),if_neg (by omega)]) h0 (by rw [d_5,if_neg (by omega),if_neg (by omega),if_neg (by omega),if_neg (by omega),if_neg (by omega),if_pos h,if_pos h0]) hb8.1 hb8.2
  ·exact n_1 Q g b Sx L X _ k i _ w H hN hpc h (by rw [d_f,if_neg (by omega),if_neg (by omega),if_neg (by omega),if_neg (by omega),if_neg (by omega)]) h0 (by rw [d_5,if_neg (by omega),if_neg (by omega),if_neg (by omega),if_neg (by omega),if_neg (by omega),if_pos h,if_neg h0])
 ·obtain ⟨ha,hb,-⟩:=c_4 hmi (by omega);have hE:d_f X k (thW X k) i=c_C X.ws X.ts (rgt (thW X k) i.2.1) (rgt (thW X k) i.2.2.1) 1:=by rw [d_f,if_neg (by omega),if_neg (by omega),if_neg (by omega),if_neg (by omega),if_pos (by omega),h];rfl
  have hY:d_5 X k (thW X k) i={ b_j X k (b_h (thW X k)) with ts:=c_L X.ws X.ts (rgt (thW X k) i.2.1) (rgt (thW X k) i.2.2.1) 1 }:=by rw [d_5,if_neg (by omega),if_neg (by omega),if_neg (by omega),if_neg (by omega),if_neg (by omega),if_neg (by omega),if_pos (by omega),h];rfl
  rw [hE,hY];refine (k_n Q g b Sx L X _ k i _ w H hN hpc h hwf ha hb _ rfl rfl rfl).mono (fun e w' hh=>i_4 (fun h0=>?_) hh);rw [c_2,if_pos h0];rfl
 ·obtain ⟨ha,hb,-⟩:=c_4 hmi (by omega);have hE:d_f X k (thW X k) i=c_C X.ws X.ts (rgt (thW X k) i.2.1) (rgt (thW X k) i.2.2.1) 2:=by rw [d_f,if_neg (by omega),if_neg (by omega),if_neg (by omega),if_neg (by omega),if_pos (by omega),h];rfl
  have hY:d_5 X k (thW X k) i={ b_j X k (b_h (thW X k)) with ts:=c_L X.ws X.ts (rgt (thW X k) i.2.1) (rgt (thW X k) i.2.2.1) 2 }:=by rw [d_5,if_neg (by omega),if_neg (by omega),if_neg (by omega),if_neg (by omega),if_neg (by omega),if_neg (by omega),if_pos (by omega),h];rfl
  rw [hE,hY];refine (k_o Q g b Sx L X _ k i _ w H hN hpc h hwf ha hb _ rfl rfl rfl).mono (fun e w' hh=>i_4 (fun h0=>?_) hh);rw [c_2,if_pos h0];rfl
 ·exact n_W Q g b Sx L X _ k i _ w H hN hpc h (by rw [d_f,if_neg (by omega),if_neg (by omega),if_neg (by omega),if_neg (by omega),if_neg (by omega)]) hen hno (by rw [d_5,if_neg (by omega),if_neg (by omega),if_neg (by omega),if_neg (by omega),if_neg (by omega),if_neg (by omega),if_neg (by omega),if_pos h])
end Go.Proofs.YtogdpojnbgeknaaGreatDoor
namespace Go.Proofs.YtogdpojnbgeknaaGreatDoor
open Go.ChangeShapes Go.WideShapes Go.ChangeAt Go.RowKit
open Gen
open Lib (hid)
theorem j_k (t:Thr) (fa la:Option Addr) (fn fc ln lc:Nat) (w:World) (F:ThF w fa fn fc la ln lc t) (h1:fn≤1000) (h2:ln≤1000) :
  Calls Tryz.prog 117 #[.agg (thC t fa fn fc la ln lc).toArray] w (u_u t w):=by
 obtain ⟨W,hW⟩:=nm ((w.alloc (Obj.cells (thC t fa fn fc la ln lc).toArray 46)).alloc (Obj.cells thN.toArray 46));have X:=N50;have R:=N14;have hB:=N2;have hz:=N84;have C1:=F.fcap;have C2:=F.lcap;have S1:=g_B hB F.fs;have S2:=a_z (a_C hB) (r_X F.lf);have ⟨HX,HR,HB,HW,HZ⟩:=hh5 X R hB hW hz;clear hW X R hB F hz
 go_enter Tryz.func117,Tryz.ntmps117
 exact J1
end Go.Proofs.YtogdpojnbgeknaaGreatDoor
