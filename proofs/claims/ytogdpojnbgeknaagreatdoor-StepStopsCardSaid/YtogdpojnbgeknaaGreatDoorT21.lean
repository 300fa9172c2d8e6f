import Derived.Test.YtogdpojnbgeknaaGreatDoorT18
import Derived.Test.YtogdpojnbgeknaaGreatDoorT20
import Derived.Test.YtogdpojnbgeknaaGreatDoorT0
import Derived.Test.YtogdpojnbgeknaaGreatDoorT17
import Derived.Deep.QuietTactic
import Derived.BigQuiet
import Derived.Test.YtogdpojnbgeknaaGreatDoorT5
import Derived.Test.YtogdpojnbgeknaaGreatDoorT6
import Derived.Test.YtogdpojnbgeknaaGreatDoorT9
import Derived.StillTailTactics
import Derived.Test.YtogdpojnbgeknaaGreatDoorT7
set_option maxRecDepth 100000
set_option maxHeartbeats 16000000
namespace Go.Proofs.YtogdpojnbgeknaaGreatDoor
open Go.ChangeShapes Go.WideShapes Go.ChangeAt Go.RowKit
open Gen
theorem m_d {Q:Nat→Prop} {w:World} {fa la:Option Addr} {fn fc ln lc:Nat} {t:Thr} (h:ThQ Q w fa fn fc la ln lc t):ThQ (fun b=>Q b∧b < w.heap.size) w fa fn fc la ln lc t:=⟨h.fcap,c_O h.fs,h.lcap,c_O h.lf⟩
theorem c_h {w:World} {g:Nat} {t:Thr} {fa la:Option Addr} {fn fc ln lc:Nat} (h:a_p w g (thC t fa fn fc la ln lc)):w.rangeAt g 1 (rgC t.r):=fun j v hj=>by
 have h1:=N145;refine (h (1+j) v ?_).1;rw [←hj];exact J44
theorem b_L (r:Nat→Int) (j:Nat) (hj:j < 8) (x:List Value):((.int .i64 (r 0))::(.int .i64 (r 1))::(.int .i64 (r 2))::(.int .i64 (r 3))::(.int .i64 (r 4))::(.int .i64 (r 5))::(.int .i64 (r 6))::(.int .i64 (r 7))::x)[j]?=some (.int .i64 (r j)):=by
 exact J44
theorem a_L {P:Program} {ops:Array Oper} {rest:List Oper} {o:Oper} {a:Act} {w:World} {Q:Exit→Act→World→Prop} (hg:o.guard=none) (ty:TypeId) (x y:Operand) (ho:o.op=.store ty x y) (g f:Nat) (cells:Array Value) (hx:a.eval x=.pointer (some ⟨g,f,none⟩)) (hy:a.eval y=.agg cells)
  (vs:List Value) (hv:a_p w g vs) (hl:f+cells.size≤vs.length) (hi:(P.info? ty).map (·.size)=some cells.size) (h1:cells.all (·.oneCell')=true)
  (h:∀ U,Hid (U=d_o w g f cells.toList)→wpList P ops Q rest (a.put o.dst undef) U):wpList P ops Q (o::rest) a w:=
 wpList_store_mid hg ty x y ho g f cells hx hy (fun j hj=>by
  have hv':=N208;obtain ⟨h1,h2⟩:=hv _ _ hv';exact ⟨by rw [h1];rfl,h2⟩) hi h1 (h _ (Lib.hid (e_6 _ _ _ _)))
end Go.Proofs.YtogdpojnbgeknaaGreatDoor
namespace Go.Proofs.YtogdpojnbgeknaaGreatDoor
open Go.ChangeShapes Go.WideShapes Go.ChangeAt Go.RowKit
open Gen
abbrev wkC (L:WoL) (D k:Int):List Value:=[.slice L.co.a L.co.n L.co.c,.slice L.ws.a L.ws.n L.ws.c,.slice L.ts.a L.ts.n L.ts.c,.int .i64 D,.slice L.bs.a L.bs.n L.bs.c,.slice L.th.a L.th.n L.th.c,.slice L.ev.a L.ev.n L.ev.c,.int .i64 k]
abbrev wkV (L:WoL) (D k:Int):Value:=.agg #[.slice L.co.a L.co.n L.co.c,.slice L.ws.a L.ws.n L.ws.c,.slice L.ts.a L.ts.n L.ts.c,.int .i64 D,.slice L.bs.a L.bs.n L.bs.c,.slice L.th.a L.th.n L.th.c,.slice L.ev.a L.ev.n L.ev.c,.int .i64 k]
section
variable {α:Type} {r:Rep α} {Q:Nat→Prop} {w:World}
theorem h_W:∀ {ys:List α} {cs:List Value} {k:Nat} {y:α},d_s r Q w cs ys→ys[k]?=some y →
  ∃ A s B,cs=A++s++B∧A.length=k*r.k∧s.length=r.k∧r.R Q w s y∧∀ s' y',r.R Q w s' y'→d_s r Q w (A++s'++B) (ys.set k y')
 | [],_,_,_,_,h=>by simp at h
 | x::ys,cs,0,y,⟨c,d,e,h1,h2⟩,h=>by
  obtain rfl:x=y:=by simpa using h
  exact ⟨[],c,d,by simpa using e,by simp,r.len h1,h1,fun s' y' h'=>⟨s',d,by simp,h',h2⟩⟩
 | x::ys,cs,k+1,y,⟨c,d,e,h1,h2⟩,h=>by
  obtain ⟨A,s,B,e2,hA,hs,h3,h4⟩:=h_W h2 (show ys[k]?=some y by simpa using h);refine ⟨c++A,s,B,by rw [e,e2];simp,by rw [List.length_append,hA,r.len h1,Nat.succ_mul];omega,hs,h3,fun s' y' h'=>⟨c,A++s'++B,by simp,h1,h4 s' y' h'⟩⟩
end
structure Bel (S:Nat→Prop) (w w':World):Prop where
 os:w'.os=w.os
 tape:w'.tape=w.tape
 output:w'.output=w.output
 size:w.heap.size≤w'.heap.size
 block:∀ c,c < w.heap.size→¬ S c→w'.heap[c]?=w.heap[c]?
section
variable {S:Nat→Prop} {w w1 w2:World}
theorem d_m (h:Below w.heap.size w w1):Bel S w w1:=⟨h.os,h.tape,h.output,h.size,fun c hc _=>h.block c hc⟩
theorem Bel.trans (h1:Bel S w w1) (h2:Bel S w1 w2):Bel S w w2:=⟨h2.os.trans h1.os,h2.tape.trans h1.tape,h2.output.trans h1.output,Nat.le_trans h1.size h2.size,fun c hc hs=>(h2.block c (Nat.lt_of_lt_of_le hc h1.size) hs).trans (h1.block c hc hs)⟩
theorem Bel.andB (h1:Bel S w w1) (h2:Below w1.heap.size w1 w2):Bel S w w2:=h1.trans (d_m h2)
theorem Bel.grown {row:Option Nat} (h:Bel S w w1) (hg:w1.grownBy w2 row) (hr:∀ k,row=some k→S k):Bel S w w2:=h.trans ⟨hg.os,hg.tape,hg.output,hg.size,fun c hc hs=>hg.block c hc (fun e=>hs (hr c e.symm))⟩
theorem Bel.setCell {p:Addr} (h:Bel S w w1) (hp:S p.block) (x:Value):Bel S w (w1.setCell p x):=by
 have hb:Below p.block w1 (w1.setCell p x):=(Below.refl _ _).setCell (Nat.le_refl _) x;refine h.trans ⟨hb.os,hb.tape,hb.output,hb.size,fun c hc hs=>?_⟩;have hne:c≠p.block:=fun e=>hs (e▸hp)
 rw [World.setCell];simp only [Array.getElem?_modify];rw [if_neg (fun e:p.block=c=>hne e.symm)]
theorem e_h {g:Nat} (hg:S g):∀ {xs:List Value} {w1:World} {k:Nat},Bel S w w1→Bel S w (d_o w1 g k xs)
 | [],_,_,h=>h
 | x::xs,w1,k,h=>by
  show Bel S w (d_o (w1.setCell ⟨g,k,none⟩ x) g (k+1) xs)
  exact e_h hg (h.setCell (p:=⟨g,k,none⟩) hg x)
theorem Bel.below {N:Nat} (h:Bel S w w1) (hS:∀ c,S c→N≤c) (hN:N≤w.heap.size):Below N w w1:=⟨h.os,h.tape,h.output,h.size,fun c hc=>h.block c (by omega) (fun hs=>by have:=hS c hs;omega)⟩
theorem Bel.varN {g:Nat} {vs:List Value} (h:Bel S w w1) (hg:¬ S g) (hv:a_p w g vs):a_p w1 g vs:=fun i v hi=>by
 obtain ⟨h1,h2⟩:=hv i v hi;have hb:=h.block g (b_P h1) hg;exact ⟨(World.cell?_of_block (a:=⟨g,i,none⟩) hb).trans h1,(World.frozen?_of_block (a:=⟨g,i,none⟩) hb).trans h2⟩
end
structure Wk (Q:Nat→Prop) (w:World) (g b:Nat) (L:WoL) (X:Wo) (k:Nat):Prop where
 x:a_p w g (wkC L X.D k)
 hb:L.th.a=some ⟨b,0,none⟩
 tc:∃ TC,a_p w b TC∧d_s repTh Q w TC X.th
 co:Vs repIns Q w L.co.a L.co.n X.code
 ws:SlP Q w L.ws.a L.ws.n X.ws
 ts:SlP Q w L.ts.a L.ts.n X.ts
 bs:BlP Q w L.bs.a L.bs.n X.bs
 ev:∃ cs,w.ownsRow 0 101 6 (.slice L.ev.a L.ev.n L.ev.c) L.ev.n cs∧d_s repEv Q w cs X.ev
 evo:∀ c,(Value.slice L.ev.a L.ev.n L.ev.c).ownBlock=some c→c≠g∧c≠b∧¬ Q c
 cco:L.co.ok
 cth:L.th.ok
 cev:L.ev.ok
 hk:k < X.th.length
 hn:X.th.length=L.th.n
 hQ:∀ c,Q c→c≠g∧c≠b
 hgb:g≠b
 new:∀ c,w.heap.size≤c→Q c
 lo:(∀ c,Q c→g < c)∧∀ c,(Value.slice L.ev.a L.ev.n L.ev.c).ownBlock=some c→g < c
theorem l_D {Q:Nat→Prop} {w:World} {v:Value} {n:Nat} {es:List Ev} {c f:Nat} {us:List Value} (h:∃ cs,w.ownsRow 0 101 6 v n cs∧d_s repEv Q w cs es) (hc:v.ownBlock≠some c) (hQ:∀ x,Q x→x≠c):∃ cs,(d_o w c f us).ownsRow 0 101 6 v n cs∧d_s repEv Q (d_o w c f us) cs es:=by
 obtain ⟨cs,h1,h2⟩:=h;exact ⟨cs,a_Z hc h1,b_m (a_t hQ) h2⟩
section
variable {Q:Nat→Prop} {w w':World} {g b:Nat} {L:WoL} {X:Wo} {k:Nat}
theorem d_u (hB:Below w.heap.size w w') (H:Wk Q w g b L X k):Wk Q w' g b L X k:=by
 have hK:=a_C (Q:=Q) hB;obtain ⟨TC,h1,h2⟩:=H.tc;obtain ⟨es,e1,e2⟩:=H.ev;exact ⟨a_i hB H.x,H.hb,⟨TC,a_i hB h1,b_m hK h2⟩,a_z hK H.co,a_r hK H.ws,a_r hK H.ts,a_G hK H.bs,⟨es,a_8 e1 hB,b_m hK e2⟩,H.evo,H.cco,H.cth,H.cev,H.hk,H.hn,H.hQ,H.hgb,fun c hc=>H.new c (Nat.le_trans hB.size hc),H.lo⟩
theorem j_M {X:Wo} {k:Nat} (hk:k < X.th.length):X.th[k]?=some (thW X k):=by
 rw [thW,List.getD_eq_getElem?_getD,List.getElem?_eq_getElem hk];rfl
theorem c_1 (H:Wk Q w g b L X k):∃ fa fc la lc,ThQ Q w fa (thW X k).fs.length fc la (thW X k).lf.length lc (thW X k) ∧
  ∀ j v,(thC (thW X k) fa (thW X k).fs.length fc la (thW X k).lf.length lc)[j]?=some v→w.cell? ⟨b,k*13+j,none⟩=some v∧w.frozen? ⟨b,k*13+j,none⟩=false:=by
 obtain ⟨TC,h1,h2⟩:=H.tc;obtain ⟨c,⟨fa,fc,la,lc,rfl,T⟩,hc⟩:=f_3 h2 k _ (j_M H.hk);exact ⟨fa,fc,la,lc,T,fun j v hj=>h1 _ _ (hc j v hj)⟩
theorem p_G (H:Wk Q w g b L X k) (f:Nat) (us:List Value) (t:Thr) (hf:f+us.length≤13)
  (hR:∀ fa fc la lc,ThQ Q w fa (thW X k).fs.length fc la (thW X k).lf.length lc (thW X k)→repTh.R Q w ((thC (thW X k) fa (thW X k).fs.length fc la (thW X k).lf.length lc).take f++us++(thC (thW X k) fa (thW X k).fs.length fc la (thW X k).lf.length lc).drop (f+us.length)) t) :
  Wk Q (d_o w b (k*13+f) us) g b L (b_j X k t) k:=by
 have hK:Kept Q w (d_o w b (k*13+f) us):=a_t (fun c hc=>(H.hQ c hc).2);obtain ⟨TC,h1,h2⟩:=H.tc;obtain ⟨A,s,B,rfl,hA,hs,⟨fa,fc,la,lc,rfl,T⟩,h4⟩:=h_W h2 (j_M H.hk);have hs13:(thC (thW X k) fa (thW X k).fs.length fc la (thW X k).lf.length lc).length=13:=hs;have hA13:A.length=k*13:=hA;have h5:=h4 _ t (hR fa fc la lc T);have h6:=b_b (xs:=us) (k*13+f) h1 (by simp only [List.length_append,hA13,hs13];omega)
 generalize thC (thW X k) fa (thW X k).fs.length fc la (thW X k).lf.length lc=s at *
 have e:(A++s++B).take (k*13+f)++us++(A++s++B).drop (k*13+f+us.length)=A++(s.take f++us++s.drop (f+us.length))++B:=by
  rw [List.append_assoc A s B,←hA13,List.take_append,List.take_of_length_le (by omega),Nat.add_assoc,List.drop_append,List.drop_of_length_le (l:=A) (by omega)];rw [show A.length+f - A.length=f by omega,show A.length+(f+us.length) - A.length=f+us.length by omega];rw [List.take_append_of_le_length (by omega),List.drop_append_of_le_length (by omega)];simp only [List.append_assoc,List.nil_append]
 rw [e] at h6;exact ⟨a_j (fun h=>H.hgb h.symm) H.x,H.hb,⟨_,h6,b_m hK h5⟩,a_z hK H.co,a_r hK H.ws,a_r hK H.ts,a_G hK H.bs,l_D H.ev (fun e=>(H.evo _ e).2.1 rfl) (fun c hc=>(H.hQ c hc).2),H.evo,H.cco,H.cth,H.cev,by rw [setW_len8];exact H.hk,by rw [setW_len8];exact H.hn,H.hQ,H.hgb,fun c hc=>H.new c (by rwa [a_R] at hc),H.lo⟩
 where setW_len8 {X:Wo} {k:Nat} {t:Thr}:(b_j X k t).th.length=X.th.length:=by simp [b_j]
end
end Go.Proofs.YtogdpojnbgeknaaGreatDoor
namespace Go.Proofs.YtogdpojnbgeknaaGreatDoor
open Go.ChangeShapes Go.WideShapes Go.ChangeAt Go.RowKit
open Gen
open Lib (hid)
abbrev woC (L:WoL) (D:Int):List Value:=[.slice L.co.a L.co.n L.co.c,.slice L.ws.a L.ws.n L.ws.c,.slice L.ts.a L.ts.n L.ts.c,.int .i64 D,.slice L.bs.a L.bs.n L.bs.c,.slice L.th.a L.th.n L.th.c,.slice L.ev.a L.ev.n L.ev.c]
theorem b_o (L:WoL) (D:Int):(woC L D).toArray.all (·.oneCell')=true:=by simp [Value.oneCell']
theorem a_E {w:World} {g:Nat} {cs:List Value} (X:a_p w g cs) (ty:TypeId) {d:TypeDesc} (hu:Tryz.prog.underlying ty=some d) (hd:d.isRow=true) (hi:(Tryz.prog.info? ty).map (·.size)=some cs.length) :
  (loadVar ty ⟨g,0,none⟩).run Tryz.prog w=.ok (.agg cs.toArray) w:=run_loadVar_mid w g 0 ty cs d (a_f X) hu hd hi
abbrev woZ:List Value:=[.slice none 0 0,.slice none 0 0,.slice none 0 0,.int .i64 0,.slice none 0 0,.slice none 0 0,.slice none 0 0]
def b_B (Q:Nat→Prop) (X:Wo) (w:World) (e:Ending) (w':World):Prop:=∃ L,e=.returned (woV L X.D)∧RWo Q w' L X∧Below w.heap.size w w'
theorem a_Y {Q:Nat→Prop} {X:Wo} {w w':World} {L:WoL} {v:Value} (hv:v=woV L X.D) (h:RWo Q w' L X) (hb:Below w.heap.size w w'):b_B Q X w (.returned v) w':=by subst hv;exact ⟨L,rfl,h,hb⟩
theorem s_u (L:WoL) (D:Int) (k:Int) (w:World):Calls Tryz.prog 21 #[woV L D,.int .i64 k] w (b_l (decide (0≤k∧k < L.th.n)) w):=by
 unfold woV
 by_cases h1:0≤k
 ·by_cases h2:k < L.th.n
  ·have HE:=hid (show decide (0≤k∧k < (L.th.n:Int))=true from decide_eq_true ⟨h1,h2⟩)
   go_enter Tryz.func21,Tryz.ntmps21
   go_wp2
   go_ret
   exact a_k HE.out (by go_grown)
  ·have HE:=hid (show decide (0≤k∧k < (L.th.n:Int))=false from decide_eq_false (fun h=>h2 h.2));exact J91
 ·have HE:=hid (show decide (0≤k∧k < (L.th.n:Int))=false from decide_eq_false (fun h=>h1 h.1));exact J91
def WoL.setTh (L:WoL) (a:Option Addr) (n d:Nat):WoL:={ L with th:=⟨a,n,d⟩ }
theorem j_H {Q:Nat→Prop} {w:World} {L:WoL} {X:Wo} (R:RWo Q w L X) {a:Option Addr} {n d:Nat} {ts:List Thr} (hc:Cap a n d) (V:Vs repTh Q w a n ts):RWo Q w (L.setTh a n d) { X with th:=ts }:=
 ⟨R.co,R.ws,R.ts,R.bs,V,R.ev,R.cco,hc,R.cev⟩
theorem c_R (Q:Nat→Prop) (L:WoL) (X:Wo) (j:Nat) (t:Thr) (fa:Option Addr) (fc:Nat) (qa:Option Addr) (qc:Nat) (w:World) (R:RWo Q w L X) (T:ThQ Q w fa t.fs.length fc qa t.lf.length qc t) (hQ:∀ b,w.heap.size≤b→Q b) (hn:L.th.n≤1000) :
  Calls Tryz.prog 53 #[woV L X.D,.int .i64 j,thV t fa t.fs.length fc qa t.lf.length qc] w (b_B Q (b_j X j t) w):=by
 obtain ⟨D,hD⟩:=mn (X.D);have HD:=hid hD;rw [hD];obtain ⟨tn,htn⟩:=mn (t.fs.length);obtain ⟨tm,htm⟩:=mn (t.lf.length);have HTN:=hid (And.intro htn htm);have ⟨HR,HT,HQ⟩:=hh3 R T hQ;rw [htn,htm];obtain ⟨W,hW⟩:=nm (((w.alloc (Obj.cells (woC L D).toArray 33)).alloc (Obj.cells (thC t fa tn fc qa tm qc).toArray 46)).alloc (Obj.cells woZ.toArray 33));have HX:=N70;have HY:=hid (show a_p W (w.heap.size+1) (thC t fa tn fc qa tm qc) by rw [hW];exact a_s _ (a_e _ _ (by simp)));have HZ:=N83;have HB:=N3;have HSZ:=N123;have HW:=hid hW;obtain ⟨Q1,hQ1⟩:∃ Q1:Nat→Prop,Q1=fun b=>Q b∧(b < w.heap.size∨w.heap.size+3≤b):=⟨_,rfl⟩
 have HQ1:=hid hQ1;have R1:RWo Q1 w L X:=by rw [hQ1];exact a_D (fun b h=>⟨h.1,.inl h.2⟩) (c_e R)
 have T1:ThQ Q1 w fa t.fs.length fc qa t.lf.length qc t:=by rw [hQ1];exact b_y (fun b h=>⟨h.1,.inl h.2⟩) (d_r T)
 have HR1:=hid R1;have h0:=r_v Q1 L.th.a L.th.n L.th.c X.th j t fa fc qa qc W (g_B HB.out R1.th) (a_w (a_C HB.out) T1) (fun b hb=>by rw [hQ1];have:=HSZ.out;exact ⟨hQ b (by omega),.inr (by omega)⟩) hn;rw [htn,htm] at h0;have HC:=hid h0;clear hD htn htm R T hQ hW h0 hQ1 R1 T1 HR HT;unfold woV thV
 go_enter Tryz.func53,Tryz.ntmps53
 go_upto_region 1 with fail
 rw [←HW.out];obtain ⟨k5,f5⟩:=HX.out 5 _ rfl
 go_wp2_with (refine wpList_load_mid rfl 46 _ rfl (w.heap.size+1) 0 rfl (thC t fa tn fc qa tm qc) _ (a_f HY.out) Tryz.underlying46 rfl (by kernel_rfl) ?_)
 refine HC.out.mono ?_;rintro e w1 ⟨a,d,rfl,hc,V,hb1⟩;have X1:=a_i hb1 HX.out;obtain ⟨V5,hV5⟩:=nm (w1.setCell ⟨w.heap.size,5,none⟩ (.slice a L.th.n d))
 have HX5:=hid (show a_p V5 w.heap.size (woC (L.setTh a L.th.n d) D) by
  have:=a_A X1 5 (by simp) (.slice a L.th.n d);rw [←hV5] at this;exact this)
 have HZ5:=hid (show a_p V5 (w.heap.size+2) woZ by rw [hV5];exact a_m (a_i hb1 HZ.out) (by omega) _);have HB5:=hid (show Below w.heap.size w V5 by rw [hV5];exact (a_b HB.out hb1).setCell (p:=⟨w.heap.size,5,none⟩) (Nat.le_refl _) _)
 have HR5:=hid (show RWo Q1 V5 (L.setTh a L.th.n d) (b_j X j t) by
  have hk:Kept Q1 w1 V5:=by rw [hV5];exact a_T w1 _ _ (fun b hb=>by rw [HQ1.out] at hb;show b≠w.heap.size;have:=hb.2;omega)
  have hk0:Kept Q1 w V5:=a_6 (a_C (a_b HB.out hb1)) hk;exact j_H (X:=X) (a_B hk0 HR1.out) hc (a_z hk V))
 have HV5:=hid hV5;obtain ⟨c5,g5⟩:=X1 5 _ rfl;clear X1 hV5 hc V hb1 HC k5 f5
 go_upto_region 2 with fail
 rw [←HV5.out];clear c5 g5
 go_wp2_with (first | (refine wpList_load_mid rfl 33 _ rfl w.heap.size 0 rfl (woC (L.setTh a L.th.n d) D) _ (a_f HX5.out) Tryz.underlying33 rfl (by kernel_rfl) ?_) | (refine a_c rfl 33 _ _ rfl (w.heap.size+2) (woC (L.setTh a L.th.n d) D).toArray rfl rfl _ HZ5.out rfl (by kernel_rfl) (b_o _ _) ?_;intro U HU))
 have HZ6:=hid (show a_p U (w.heap.size+2) (woC (L.setTh a L.th.n d) D) by rw [HU.out];exact a_q HZ5.out rfl);refine a_V ⟨w.heap.size+2,0,none⟩ rfl rfl rfl (a_E HZ6.out 33 Tryz.underlying33 rfl (by kernel_rfl)) ?_;have hkU:Kept Q1 V5 U:=by rw [HU.out];exact a_t (fun b hb=>by rw [HQ1.out] at hb;have:=hb.2;omega)
 exact a_Y (L:=L.setTh a L.th.n d) (by rw [show (b_j X j t).D=X.D from rfl,HD.out]) (a_D (fun b hb=>by rw [HQ1.out] at hb;exact hb.1) (a_B hkU HR5.out)) (by rw [HU.out];exact a_h (by omega) HB5.out)
theorem b_1 (Q:Nat→Prop) (g b:Nat) (L:WoL) (X:Wo) (k:Nat) (w:World) (H:Wk Q w g b L X k) :
  Calls Tryz.prog 78 #[.pointer (some ⟨g,0,none⟩)] w (fun e w'=>e=.returned (.pointer (some ⟨b,k*13,none⟩))∧∃ m,w'=w.drewN m):=by
 exact J63
theorem o_q {Q:Nat→Prop} {w:World} {b o:Nat} {i:Ins} (h:At repIns Q w b o i):w.cell? ⟨b,o,none⟩=some (.int .i64 i.1)∧w.cell? ⟨b,o+1,none⟩=some (.int .i64 i.2.1)∧w.cell? ⟨b,o+2,none⟩=some (.int .i64 i.2.2.1)∧w.cell? ⟨b,o+3,none⟩=some (.int .i64 i.2.2.2):=by
 obtain ⟨cs,h1,h2⟩:=h;have h1:cs=[.int .i64 i.1,.int .i64 i.2.1,.int .i64 i.2.2.1,.int .i64 i.2.2.2]:=h1;subst h1;exact ⟨h2 0 _ rfl,h2 1 _ rfl,h2 2 _ rfl,h2 3 _ rfl⟩
def l_o (i:Ins) (b:Bool) (w:World) (e:Ending) (w':World):Prop:=e=.returned (.tuple #[.agg #[.int .i64 i.1,.int .i64 i.2.1,.int .i64 i.2.2.1,.int .i64 i.2.2.2],.bool b])∧Below w.heap.size w w'
abbrev inC (i:Ins):List Value:=[.int .i64 i.1,.int .i64 i.2.1,.int .i64 i.2.2.1,.int .i64 i.2.2.2]
theorem q_O (Q:Nat→Prop) (g b:Nat) (L:WoL) (X:Wo) (k:Nat) (w:World) (H:Wk Q w g b L X k) (hp0:0≤(thW X k).pc) :
  Calls Tryz.prog 79 #[.pointer (some ⟨g,0,none⟩)] w (l_o (inW X (thW X k).pc) (decide ((thW X k).pc < X.code.length)) w):=by
 obtain ⟨W,hW⟩:=nm (w.alloc (Obj.cells (inC (0,0,0,0)).toArray 66));have HR:=N234;have HB:=N3;have HH:=hid (d_u HB.out H);have HC:=N57;obtain ⟨fa,fc,la,lc,-,ht⟩:=c_1 HH.out;obtain ⟨t0,-⟩:=ht 0 _ rfl;obtain ⟨x0,-⟩:=HH.out.x 0 _ rfl;have HW:=hid hW;obtain ⟨pc,hpc⟩:=mn ((thW X k).pc);rw [hpc] at t0 hp0;rw [hpc];have HL:=hid (show X.code.length=L.co.n from H.co.1);obtain ⟨i,hi⟩:=mn (inW X pc);rw [hi];have HI:=hid hi;obtain ⟨d,hd⟩:=mn (decide (pc < X.code.length));rw [hd];have HDD:=hid hd;clear hW H hpc ht hi hd
 go_enter Tryz.func79,Tryz.ntmps79
 go_upto_region 1 with fail
 rw [←HW.out]
 go_wp2_with fail
 refine HC.out.mono ?_;rintro e1 w1 ⟨rfl,m,rfl⟩;clear HC;have t1:W.cell? ⟨b,k*13,none⟩=some (.int .i64 pc):=t0;exact J15
def r_E (l:List Int):Bool:=l.all (fun n=>decide (n=0))
theorem q_P (v:Int) (w:World):Calls Tryz.prog 81 #[.int .i64 v] w (g_Q (v != 0) w):=by
 go_enter Tryz.func81,Tryz.ntmps81
 go_wp2
 go_ret
 exact ⟨rfl,rfl⟩
def t_i (l:List Int) (w:World) (e:Ending) (w':World):Prop:=∃ z,e=.returned (.int .i64 z)∧decide (0≤z)=!r_E l∧Below w.heap.size w w'
def ZTo (l:List Int) (k:Nat):Prop:=∀ i v,i < k→l[i]?=some v→v=0
theorem r_y {l:List Int} {k:Nat} {v:Int} (h:ZTo l k) (hv:l[k]?=some v) (h0:v=0):ZTo l (k+1):=fun i x hi hx=>by
 by_cases e:i=k
 ·subst e;rw [hv] at hx;cases hx;exact h0
 ·exact h i x (by omega) hx
theorem t_d {l:List Int} {n:Nat} (hn:l.length=n) (h:ZTo l n):r_E l=true:=by
 rw [r_E,List.all_eq_true];intro v hv;obtain ⟨i,hi,rfl⟩:=List.mem_iff_getElem.1 hv;exact decide_eq_true (h i _ (by omega) (List.getElem?_eq_getElem hi))
theorem zNo {l:List Int} {k:Nat} {v:Int} (hv:l[k]?=some v) (h0:v≠0):r_E l=false:=by
 rw [r_E,List.all_eq_false];exact ⟨v,List.mem_of_getElem? hv,by simpa using h0⟩
theorem m_E (a:Option Addr) (n c:Nat) (l:List Int) (w:World) (S:Vs repInt Any w a n l) (hn:n≤1000) :
  Calls Tryz.prog 111 #[.slice a n c,.func (.func 81) #[] #[]] w (t_i l w):=by
 go_enter Tryz.func111,Tryz.ntmps111
 go_wp2
 go_loopw [5,8] (fun _ i wr=>∃ k:Nat,k≤n∧i=.int .i64 k∧Hid (ZTo l k)∧wr=w) (fun _ i _=>n - (intOf i).toNat)
 case atStart=>exact ⟨0,by omega,rfl,fun i v hi=>by omega,rfl⟩
 case round =>
  obtain ⟨k,hk,rfl,hz,rfl⟩:=hrel
  by_cases hlt:k < n
  ·obtain ⟨b,o,v,rfl,hv,hc⟩:=l_K S hlt;have i1:(0:Int)≤k:=by omega
   have i2:(k:Int) < n:=by omega
   have hwk:=N171;have HC:=hid (q_P v wr)
   by_cases h0:v=0
   ·have HZ:=hid (r_y hz.out hv h0);subst h0;clear hv
    go_wp2_with fail
    refine HC.out.mono ?_;rintro e1 w1 ⟨rfl,rfl⟩;clear HC
    go_wp2_with fail
    go_roundw
    case rel=>exact ⟨k+1,by omega,by go_num,HZ.out,trivial⟩
    case measure=>simp [intOf];omega
   ·have HZ:=hid (zNo hv h0);have hb:(v != 0)=true:=by simpa using h0
    rw [hb] at HC;clear hv hb h0
    go_wp2_with fail
    refine HC.out.mono ?_;rintro e1 w1 ⟨rfl,rfl⟩;clear HC
    go_wp2_with fail
    go_ret
    exact ⟨k,rfl,by rw [HZ.out];simp,Below.refl _ _⟩
  ·obtain rfl:k=n:=by omega
   have HZ:=hid (t_d S.1 hz.out)
   go_wp2_with fail
   go_ret
   exact ⟨-1,rfl,by rw [HZ.out];rfl,Below.refl _ _⟩
theorem p_4 (a:Option Addr) (n c:Nat) (l:List Int) (w:World) (S:Vs repInt Any w a n l) (hn:n≤1000) :
  Calls Tryz.prog 80 #[.slice a n c,.func (.func 81) #[] #[]] w (b_l (!r_E l) w):=by
 have HC:=hid (m_E a n c l w S hn);clear S
 go_enter Tryz.func80,Tryz.ntmps80
 go_wp2_with fail
 refine HC.out.mono ?_;rintro e1 w1 ⟨z,rfl,hz,hb⟩;have ⟨HZ,HB⟩:=hh2 hz hb;clear HC hz hb
 go_wp2_with fail
 go_ret
 exact a_k HZ.out.symm HB.out
def i_5 (X:Wo) (t:Thr) (i:Ins):Bool:=decide (a_I X.ws X.ts (rgt t i.2.2.1)≠0)||decide (b_K X.ws X.ts (rgt t i.2.2.1)≠rgt t i.2.1)
theorem r_Z {w:World} {g:Nat} {L:WoL} {D k:Int} (h:a_p w g (wkC L D k)):w.rangeAt g 1 [.slice L.ws.a L.ws.n L.ws.c,.slice L.ts.a L.ts.n L.ts.c]:=fun j v hj=>by
 match j,hj with
 | 0,hj=>exact (h 1 v hj).1
 | 1,hj=>exact (h 2 v hj).1
theorem p_H {w:World} {g:Nat} {L:WoL} {D k:Int} (h:a_p w g (wkC L D k)):w.rangeAt g 1 [.slice L.ws.a L.ws.n L.ws.c,.slice L.ts.a L.ts.n L.ts.c,.int .i64 D,.slice L.bs.a L.bs.n L.bs.c]:=fun j v hj=>by
 match j,hj with
 | 0,hj=>exact (h 1 v hj).1
 | 1,hj=>exact (h 2 v hj).1
 | 2,hj=>exact (h 3 v hj).1
 | 3,hj=>exact (h 4 v hj).1
theorem f_k {Q:Nat→Prop} {w u:World} {a:Option Addr} {n:Nat} {zs:List Int} (hu:Below w.heap.size w u) (h:SlP Q w a n zs):Sl u a n zs:=(a_r (a_C hu) h).sl
def t_p (h g:Nat) (L:WoL) (jb:Nat) (vb lv le:Int):b_p:=[isV 0 (.pointer (some ⟨g,0,none⟩)),isV 1 (.pointer (some ⟨g,0,none⟩)),isV 2 (.pointer (some ⟨g,0,none⟩)),isV 3 (.pointer (some ⟨g,1,none⟩)),isV 4 (.pointer (some ⟨g,1,none⟩)),isV 5 (.agg #[.slice L.ws.a L.ws.n L.ws.c,.slice L.ts.a L.ts.n L.ts.c]),isV 6 (.pointer (some ⟨h,2,none⟩)),isV 7 (.int .i64 jb),isV 8 (.pointer (some ⟨h+1,jb,none⟩)),isV 9 (.int .i64 vb),isV 10 (.tuple #[.int .i64 lv,.int .i64 le]),isV 11 (.tuple #[.int .i64 lv,.int .i64 le]),isV 12 (.int .i64 lv),isV 13 (.int .i64 le),isV 14 (.int .i64 lv),isV 15 (.int .i64 le)]
theorem o_a (h g:Nat) (L:WoL) (jb:Nat) (vb lv le:Int):c_j (t_p h g  L  jb  vb lv le ):=a_d<|a_d<|a_d<|a_d<|a_d<|a_d<|a_d<|a_d<|a_d<|a_d<|a_d<|a_d<|a_d<|a_d<|a_d<|a_d<|b_u
end Go.Proofs.YtogdpojnbgeknaaGreatDoor
namespace Go.Proofs.YtogdpojnbgeknaaGreatDoor
open Go.ChangeShapes Go.WideShapes Go.ChangeAt Go.RowKit
open Gen
theorem q_w {X:Wo} {pc:Int} (h0:0≤pc) (h1:pc < X.code.length):inW X pc∈X.code:=by
 exact J97
end Go.Proofs.YtogdpojnbgeknaaGreatDoor
