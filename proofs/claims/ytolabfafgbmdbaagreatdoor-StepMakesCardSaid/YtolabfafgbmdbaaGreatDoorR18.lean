import Derived.Test.YtolabfafgbmdbaaGreatDoorR15
import Derived.Test.YtolabfafgbmdbaaGreatDoorR17
import Derived.Deep.QuietTactic
import Derived.BigQuiet
import Derived.Test.YtolabfafgbmdbaaGreatDoorR7
import Derived.Test.YtolabfafgbmdbaaGreatDoorR0
import Derived.Test.YtolabfafgbmdbaaGreatDoorR8
import Derived.Test.YtolabfafgbmdbaaGreatDoorR9
import Derived.StillTailTactics
set_option maxRecDepth 100000
set_option maxHeartbeats 16000000
namespace Go.Proofs.YtolabfafgbmdbaaGreatDoor
open Go.ChangeShapes Go.WideShapes Go.ChangeAt Go.RowKit
open Gen
abbrev wkC (L:WoL) (D k:Int):List Value:=[.slice L.co.a L.co.n L.co.c,.slice L.ws.a L.ws.n L.ws.c,.slice L.ts.a L.ts.n L.ts.c,.int .i64 D,.slice L.bs.a L.bs.n L.bs.c,.slice L.th.a L.th.n L.th.c,.slice L.ev.a L.ev.n L.ev.c,.int .i64 k]
abbrev wkV (L:WoL) (D k:Int):Value:=.agg #[.slice L.co.a L.co.n L.co.c,.slice L.ws.a L.ws.n L.ws.c,.slice L.ts.a L.ts.n L.ts.c,.int .i64 D,.slice L.bs.a L.bs.n L.bs.c,.slice L.th.a L.th.n L.th.c,.slice L.ev.a L.ev.n L.ev.c,.int .i64 k]
section
variable {α:Type} {r:Rep α} {Q:Nat→Prop} {w:World}
theorem g_w:∀ {ys:List α} {cs:List Value} {k:Nat} {y:α},c_m r Q w cs ys→ys[k]?=some y →
  ∃ A s B,cs=A++s++B∧A.length=k*r.k∧s.length=r.k∧r.R Q w s y∧∀ s' y',r.R Q w s' y'→c_m r Q w (A++s'++B) (ys.set k y')
 | [],_,_,_,_,h=>by simp at h
 | x::ys,cs,0,y,⟨c,d,e,h1,h2⟩,h=>by
  obtain rfl:x=y:=by simpa using h
  exact ⟨[],c,d,by simpa using e,by simp,r.len h1,h1,fun s' y' h'=>⟨s',d,by simp,h',h2⟩⟩
 | x::ys,cs,k+1,y,⟨c,d,e,h1,h2⟩,h=>by
  obtain ⟨A,s,B,e2,hA,hs,h3,h4⟩:=g_w h2 (show ys[k]?=some y by simpa using h);refine ⟨c++A,s,B,by rw [e,e2];simp,by rw [List.length_append,hA,r.len h1,Nat.succ_mul];omega,hs,h3,fun s' y' h'=>⟨c,A++s'++B,by simp,h1,h4 s' y' h'⟩⟩
end
structure Bel (S:Nat→Prop) (w w':World):Prop where
 os:w'.os=w.os
 tape:w'.tape=w.tape
 output:w'.output=w.output
 size:w.heap.size≤w'.heap.size
 block:∀ c,c < w.heap.size→¬ S c→w'.heap[c]?=w.heap[c]?
section
variable {S:Nat→Prop} {w w1 w2:World}
theorem c_c (h:Below w.heap.size w w1):Bel S w w1:=⟨h.os,h.tape,h.output,h.size,fun c hc _=>h.block c hc⟩
theorem Bel.trans (h1:Bel S w w1) (h2:Bel S w1 w2):Bel S w w2:=⟨h2.os.trans h1.os,h2.tape.trans h1.tape,h2.output.trans h1.output,Nat.le_trans h1.size h2.size,fun c hc hs=>(h2.block c (Nat.lt_of_lt_of_le hc h1.size) hs).trans (h1.block c hc hs)⟩
theorem Bel.andB (h1:Bel S w w1) (h2:Below w1.heap.size w1 w2):Bel S w w2:=h1.trans (c_c h2)
theorem Bel.grown {row:Option Nat} (h:Bel S w w1) (hg:w1.grownBy w2 row) (hr:∀ k,row=some k→S k):Bel S w w2:=h.trans ⟨hg.os,hg.tape,hg.output,hg.size,fun c hc hs=>hg.block c hc (fun e=>hs (hr c e.symm))⟩
theorem Bel.setCell {p:Addr} (h:Bel S w w1) (hp:S p.block) (x:Value):Bel S w (w1.setCell p x):=by
 have hb:Below p.block w1 (w1.setCell p x):=(Below.refl _ _).setCell (Nat.le_refl _) x;refine h.trans ⟨hb.os,hb.tape,hb.output,hb.size,fun c hc hs=>?_⟩;have hne:c≠p.block:=fun e=>hs (e▸hp)
 rw [World.setCell];simp only [Array.getElem?_modify];rw [if_neg (fun e:p.block=c=>hne e.symm)]
theorem d_e {g:Nat} (hg:S g):∀ {xs:List Value} {w1:World} {k:Nat},Bel S w w1→Bel S w (c_Q w1 g k xs)
 | [],_,_,h=>h
 | x::xs,w1,k,h=>by
  show Bel S w (c_Q (w1.setCell ⟨g,k,none⟩ x) g (k+1) xs)
  exact d_e hg (h.setCell (p:=⟨g,k,none⟩) hg x)
theorem Bel.below {N:Nat} (h:Bel S w w1) (hS:∀ c,S c→N≤c) (hN:N≤w.heap.size):Below N w w1:=⟨h.os,h.tape,h.output,h.size,fun c hc=>h.block c (by omega) (fun hs=>by have:=hS c hs;omega)⟩
theorem Bel.varN {g:Nat} {vs:List Value} (h:Bel S w w1) (hg:¬ S g) (hv:a_p w g vs):a_p w1 g vs:=fun i v hi=>by
 obtain ⟨h1,h2⟩:=hv i v hi;have hb:=h.block g (b_g h1) hg;exact ⟨(World.cell?_of_block (a:=⟨g,i,none⟩) hb).trans h1,(World.frozen?_of_block (a:=⟨g,i,none⟩) hb).trans h2⟩
end
structure Wk (Q:Nat→Prop) (w:World) (g b:Nat) (L:WoL) (X:Wo) (k:Nat):Prop where
 x:a_p w g (wkC L X.D k)
 hb:L.th.a=some ⟨b,0,none⟩
 tc:∃ TC,a_p w b TC∧c_m repTh Q w TC X.th
 co:Vs repIns Q w L.co.a L.co.n X.code
 ws:SlP Q w L.ws.a L.ws.n X.ws
 ts:SlP Q w L.ts.a L.ts.n X.ts
 bs:BlP Q w L.bs.a L.bs.n X.bs
 ev:∃ cs,w.ownsRow 0 101 6 (.slice L.ev.a L.ev.n L.ev.c) L.ev.n cs∧c_m repEv Q w cs X.ev
 evo:∀ c,(Value.slice L.ev.a L.ev.n L.ev.c).ownBlock=some c→c≠g∧c≠b∧¬ Q c
 cco:L.co.ok
 cth:L.th.ok
 cev:L.ev.ok
 hk:k < X.th.length
 hn:X.th.length=L.th.n
 hQ:∀ c,Q c→c≠g∧c≠b
 hgb:g≠b
 new:∀ c,w.heap.size≤c→Q c
 lo:(∀ c,Q c→g < c)∧∀ c,(Value.slice L.ev.a L.ev.n L.ev.c).ownBlock=some c→g < c
theorem j_K {Q:Nat→Prop} {w:World} {v:Value} {n:Nat} {es:List Ev} {c f:Nat} {us:List Value} (h:∃ cs,w.ownsRow 0 101 6 v n cs∧c_m repEv Q w cs es) (hc:v.ownBlock≠some c) (hQ:∀ x,Q x→x≠c):∃ cs,(c_Q w c f us).ownsRow 0 101 6 v n cs∧c_m repEv Q (c_Q w c f us) cs es:=by
 obtain ⟨cs,h1,h2⟩:=h;exact ⟨cs,a_F hc h1,a_1 (a_E hQ) h2⟩
section
variable {Q:Nat→Prop} {w w':World} {g b:Nat} {L:WoL} {X:Wo} {k:Nat}
theorem c_p (hB:Below w.heap.size w w') (H:Wk Q w g b L X k):Wk Q w' g b L X k:=by
 have hK:=a_G (Q:=Q) hB;obtain ⟨TC,h1,h2⟩:=H.tc;obtain ⟨es,e1,e2⟩:=H.ev;exact ⟨a_f hB H.x,H.hb,⟨TC,a_f hB h1,a_1 hK h2⟩,a_w hK H.co,a_q hK H.ws,a_q hK H.ts,a_H hK H.bs,⟨es,a_K e1 hB,a_1 hK e2⟩,H.evo,H.cco,H.cth,H.cev,H.hk,H.hn,H.hQ,H.hgb,fun c hc=>H.new c (Nat.le_trans hB.size hc),H.lo⟩
theorem i_g {X:Wo} {k:Nat} (hk:k < X.th.length):X.th[k]?=some (thW X k):=by
 rw [thW,List.getD_eq_getElem?_getD,List.getElem?_eq_getElem hk];rfl
theorem b_6 (H:Wk Q w g b L X k):∃ fa fc la lc,ThQ Q w fa (thW X k).fs.length fc la (thW X k).lf.length lc (thW X k) ∧
  ∀ j v,(thC (thW X k) fa (thW X k).fs.length fc la (thW X k).lf.length lc)[j]?=some v→w.cell? ⟨b,k*13+j,none⟩=some v∧w.frozen? ⟨b,k*13+j,none⟩=false:=by
 obtain ⟨TC,h1,h2⟩:=H.tc;obtain ⟨c,⟨fa,fc,la,lc,rfl,T⟩,hc⟩:=e_Q h2 k _ (i_g H.hk);exact ⟨fa,fc,la,lc,T,fun j v hj=>h1 _ _ (hc j v hj)⟩
theorem m_3 (H:Wk Q w g b L X k) (f:Nat) (us:List Value) (t:Thr) (hf:f+us.length≤13)
  (hR:∀ fa fc la lc,ThQ Q w fa (thW X k).fs.length fc la (thW X k).lf.length lc (thW X k)→repTh.R Q w ((thC (thW X k) fa (thW X k).fs.length fc la (thW X k).lf.length lc).take f++us++(thC (thW X k) fa (thW X k).fs.length fc la (thW X k).lf.length lc).drop (f+us.length)) t) :
  Wk Q (c_Q w b (k*13+f) us) g b L (b_y X k t) k:=by
 have hK:c_n Q w (c_Q w b (k*13+f) us):=a_E (fun c hc=>(H.hQ c hc).2);obtain ⟨TC,h1,h2⟩:=H.tc;obtain ⟨A,s,B,rfl,hA,hs,⟨fa,fc,la,lc,rfl,T⟩,h4⟩:=g_w h2 (i_g H.hk);have hs13:(thC (thW X k) fa (thW X k).fs.length fc la (thW X k).lf.length lc).length=13:=hs;have hA13:A.length=k*13:=hA;have h5:=h4 _ t (hR fa fc la lc T);have h6:=c_N (xs:=us) (k*13+f) h1 (by simp only [List.length_append,hA13,hs13];omega)
 generalize thC (thW X k) fa (thW X k).fs.length fc la (thW X k).lf.length lc=s at *
 have e:(A++s++B).take (k*13+f)++us++(A++s++B).drop (k*13+f+us.length)=A++(s.take f++us++s.drop (f+us.length))++B:=by
  rw [List.append_assoc A s B,←hA13,List.take_append,List.take_of_length_le (by omega),Nat.add_assoc,List.drop_append,List.drop_of_length_le (l:=A) (by omega)];rw [show A.length+f - A.length=f by omega,show A.length+(f+us.length) - A.length=f+us.length by omega];rw [List.take_append_of_le_length (by omega),List.drop_append_of_le_length (by omega)];simp only [List.append_assoc,List.nil_append]
 rw [e] at h6;exact ⟨a_y (fun h=>H.hgb h.symm) H.x,H.hb,⟨_,h6,a_1 hK h5⟩,a_w hK H.co,a_q hK H.ws,a_q hK H.ts,a_H hK H.bs,j_K H.ev (fun e=>(H.evo _ e).2.1 rfl) (fun c hc=>(H.hQ c hc).2),H.evo,H.cco,H.cth,H.cev,by rw [setW_len8];exact H.hk,by rw [setW_len8];exact H.hn,H.hQ,H.hgb,fun c hc=>H.new c (by rwa [b_t] at hc),H.lo⟩
 where setW_len8 {X:Wo} {k:Nat} {t:Thr}:(b_y X k t).th.length=X.th.length:=by simp [b_y]
end
end Go.Proofs.YtolabfafgbmdbaaGreatDoor
namespace Go.Proofs.YtolabfafgbmdbaaGreatDoor
open Go.ChangeShapes Go.WideShapes Go.ChangeAt Go.RowKit
open Gen
abbrev woC (L:WoL) (D:Int):List Value:=[.slice L.co.a L.co.n L.co.c,.slice L.ws.a L.ws.n L.ws.c,.slice L.ts.a L.ts.n L.ts.c,.int .i64 D,.slice L.bs.a L.bs.n L.bs.c,.slice L.th.a L.th.n L.th.c,.slice L.ev.a L.ev.n L.ev.c]
theorem g_D (L:WoL) (D:Int):(woC L D).toArray.all (·.oneCell')=true:=by simp [Value.oneCell']
theorem a_4 {w:World} {g:Nat} {cs:List Value} (X:a_p w g cs) (ty:TypeId) {d:TypeDesc} (hu:Tryz.prog.underlying ty=some d) (hd:d.isRow=true) (hi:(Tryz.prog.info? ty).map (·.size)=some cs.length) :
  (loadVar ty ⟨g,0,none⟩).run Tryz.prog w=.ok (.agg cs.toArray) w:=run_loadVar_mid w g 0 ty cs d (a_l X) hu hd hi
abbrev woZ:List Value:=[.slice none 0 0,.slice none 0 0,.slice none 0 0,.int .i64 0,.slice none 0 0,.slice none 0 0,.slice none 0 0]
def l_k (Q:Nat→Prop) (X:Wo) (w:World) (e:Ending) (w':World):Prop:=∃ L,e=.returned (woV L X.D)∧RWo Q w' L X∧Below w.heap.size w w'
theorem m_5 {Q:Nat→Prop} {X:Wo} {w w':World} {L:WoL} {v:Value} (hv:v=woV L X.D) (h:RWo Q w' L X) (hb:Below w.heap.size w w'):l_k Q X w (.returned v) w':=by subst hv;exact ⟨L,rfl,h,hb⟩
def WoL.setTh (L:WoL) (a:Option Addr) (n d:Nat):WoL:={ L with th:=⟨a,n,d⟩ }
end Go.Proofs.YtolabfafgbmdbaaGreatDoor
namespace Go.Proofs.YtolabfafgbmdbaaGreatDoor
open Go.ChangeShapes Go.WideShapes Go.ChangeAt Go.RowKit
open Gen
open Lib (hid)
theorem b_n (Q:Nat→Prop) (g b:Nat) (L:WoL) (X:Wo) (k:Nat) (w:World) (H:Wk Q w g b L X k) :
  Calls Tryz.prog 78 #[.pointer (some ⟨g,0,none⟩)] w (fun e w'=>e=.returned (.pointer (some ⟨b,k*13,none⟩))∧∃ m,w'=w.drewN m):=by
 exact J51
theorem l_W {Q:Nat→Prop} {w:World} {b o:Nat} {i:Ins} (h:At repIns Q w b o i):w.cell? ⟨b,o,none⟩=some (.int .i64 i.1)∧w.cell? ⟨b,o+1,none⟩=some (.int .i64 i.2.1)∧w.cell? ⟨b,o+2,none⟩=some (.int .i64 i.2.2.1)∧w.cell? ⟨b,o+3,none⟩=some (.int .i64 i.2.2.2):=by
 obtain ⟨cs,h1,h2⟩:=h;have h1:cs=[.int .i64 i.1,.int .i64 i.2.1,.int .i64 i.2.2.1,.int .i64 i.2.2.2]:=h1;subst h1;exact ⟨h2 0 _ rfl,h2 1 _ rfl,h2 2 _ rfl,h2 3 _ rfl⟩
def j_A (i:Ins) (b:Bool) (w:World) (e:Ending) (w':World):Prop:=e=.returned (.tuple #[.agg #[.int .i64 i.1,.int .i64 i.2.1,.int .i64 i.2.2.1,.int .i64 i.2.2.2],.bool b])∧Below w.heap.size w w'
abbrev inC (i:Ins):List Value:=[.int .i64 i.1,.int .i64 i.2.1,.int .i64 i.2.2.1,.int .i64 i.2.2.2]
theorem n_4 (Q:Nat→Prop) (g b:Nat) (L:WoL) (X:Wo) (k:Nat) (w:World) (H:Wk Q w g b L X k) (hp0:0≤(thW X k).pc) :
  Calls Tryz.prog 79 #[.pointer (some ⟨g,0,none⟩)] w (j_A (inW X (thW X k).pc) (decide ((thW X k).pc < X.code.length)) w):=by
 obtain ⟨W,hW⟩:=nm (w.alloc (Obj.cells (inC (0,0,0,0)).toArray 66));have HR:=N114;have HB:=N1;have HH:=hid (c_p HB.out H);have HC:=N20;obtain ⟨fa,fc,la,lc,-,ht⟩:=b_6 HH.out;obtain ⟨t0,-⟩:=ht 0 _ rfl;obtain ⟨x0,-⟩:=HH.out.x 0 _ rfl;have HW:=hid hW;obtain ⟨pc,hpc⟩:=mn ((thW X k).pc);rw [hpc] at t0 hp0;rw [hpc];have HL:=hid (show X.code.length=L.co.n from H.co.1);obtain ⟨i,hi⟩:=mn (inW X pc);rw [hi];have HI:=hid hi;obtain ⟨d,hd⟩:=mn (decide (pc < X.code.length));rw [hd];have HDD:=hid hd;clear hW H hpc ht hi hd
 go_enter Tryz.func79,Tryz.ntmps79
 go_upto_region 1 with fail
 rw [←HW.out]
 go_wp2_with fail
 refine HC.out.mono ?_;rintro e1 w1 ⟨rfl,m,rfl⟩;clear HC;have t1:W.cell? ⟨b,k*13,none⟩=some (.int .i64 pc):=t0;exact J13
def o_x (l:List Int):Bool:=l.all (fun n=>decide (n=0))
theorem n_5 (v:Int) (w:World):Calls Tryz.prog 81 #[.int .i64 v] w (g_a (v != 0) w):=by
 go_enter Tryz.func81,Tryz.ntmps81
 go_wp2
 go_ret
 exact ⟨rfl,rfl⟩
def p_T (l:List Int) (w:World) (e:Ending) (w':World):Prop:=∃ z,e=.returned (.int .i64 z)∧decide (0≤z)=!o_x l∧Below w.heap.size w w'
def ZTo (l:List Int) (k:Nat):Prop:=∀ i v,i < k→l[i]?=some v→v=0
theorem o_p {l:List Int} {k:Nat} {v:Int} (h:ZTo l k) (hv:l[k]?=some v) (h0:v=0):ZTo l (k+1):=fun i x hi hx=>by
 by_cases e:i=k
 ·subst e;rw [hv] at hx;cases hx;exact h0
 ·exact h i x (by omega) hx
theorem p_Q {l:List Int} {n:Nat} (hn:l.length=n) (h:ZTo l n):o_x l=true:=by
 rw [o_x,List.all_eq_true];intro v hv;obtain ⟨i,hi,rfl⟩:=List.mem_iff_getElem.1 hv;exact decide_eq_true (h i _ (by omega) (List.getElem?_eq_getElem hi))
theorem zNo {l:List Int} {k:Nat} {v:Int} (hv:l[k]?=some v) (h0:v≠0):o_x l=false:=by
 rw [o_x,List.all_eq_false];exact ⟨v,List.mem_of_getElem? hv,by simpa using h0⟩
theorem k_u (a:Option Addr) (n c:Nat) (l:List Int) (w:World) (S:Vs repInt Any w a n l) (hn:n≤1000) :
  Calls Tryz.prog 111 #[.slice a n c,.func (.func 81) #[] #[]] w (p_T l w):=by
 go_enter Tryz.func111,Tryz.ntmps111
 go_wp2
 go_loopw [5,8] (fun _ i wr=>∃ k:Nat,k≤n∧i=.int .i64 k∧Hid (ZTo l k)∧wr=w) (fun _ i _=>n - (intOf i).toNat)
 case atStart=>exact ⟨0,by omega,rfl,fun i v hi=>by omega,rfl⟩
 case round =>
  obtain ⟨k,hk,rfl,hz,rfl⟩:=hrel
  by_cases hlt:k < n
  ·obtain ⟨b,o,v,rfl,hv,hc⟩:=h_M S hlt;have i1:(0:Int)≤k:=by omega
   have i2:(k:Int) < n:=by omega
   have hwk:wrap64 ((k:Int)+1)=k+1:=IntWalk.wrap64_in _ (by omega);have HC:=hid (n_5 v wr)
   by_cases h0:v=0
   ·have HZ:=hid (o_p hz.out hv h0);subst h0;clear hv
    go_wp2_with fail
    refine HC.out.mono ?_;rintro e1 w1 ⟨rfl,rfl⟩;clear HC
    go_wp2_with fail
    go_roundw
    case rel=>exact ⟨k+1,by omega,by go_num,HZ.out,trivial⟩
    case measure=>simp [intOf];omega
   ·have HZ:=hid (zNo hv h0);have hb:(v != 0)=true:=by simpa using h0
    rw [hb] at HC;clear hv hb h0
    go_wp2_with fail
    refine HC.out.mono ?_;rintro e1 w1 ⟨rfl,rfl⟩;clear HC
    go_wp2_with fail
    go_ret
    exact ⟨k,rfl,by rw [HZ.out];simp,Below.refl _ _⟩
  ·obtain rfl:k=n:=by omega
   have HZ:=hid (p_Q S.1 hz.out)
   go_wp2_with fail
   go_ret
   exact ⟨-1,rfl,by rw [HZ.out];rfl,Below.refl _ _⟩
theorem n_o (a:Option Addr) (n c:Nat) (l:List Int) (w:World) (S:Vs repInt Any w a n l) (hn:n≤1000) :
  Calls Tryz.prog 80 #[.slice a n c,.func (.func 81) #[] #[]] w (a_B (!o_x l) w):=by
 have HC:=hid (k_u a n c l w S hn);clear S
 go_enter Tryz.func80,Tryz.ntmps80
 go_wp2_with fail
 refine HC.out.mono ?_;rintro e1 w1 ⟨z,rfl,hz,hb⟩;have ⟨HZ,HB⟩:=hh2 hz hb;clear HC hz hb
 go_wp2_with fail
 go_ret
 exact a_e HZ.out.symm HB.out
def h_y (X:Wo) (t:Thr) (i:Ins):Bool:=decide (a_L X.ws X.ts (rgt t i.2.2.1)≠0)||decide (b_T X.ws X.ts (rgt t i.2.2.1)≠rgt t i.2.1)
theorem o_O {w:World} {g:Nat} {L:WoL} {D k:Int} (h:a_p w g (wkC L D k)):w.rangeAt g 1 [.slice L.ws.a L.ws.n L.ws.c,.slice L.ts.a L.ts.n L.ts.c]:=fun j v hj=>by
 match j,hj with
 | 0,hj=>exact (h 1 v hj).1
 | 1,hj=>exact (h 2 v hj).1
theorem m_4 {w:World} {g:Nat} {L:WoL} {D k:Int} (h:a_p w g (wkC L D k)):w.rangeAt g 1 [.slice L.ws.a L.ws.n L.ws.c,.slice L.ts.a L.ts.n L.ts.c,.int .i64 D,.slice L.bs.a L.bs.n L.bs.c]:=fun j v hj=>by
 match j,hj with
 | 0,hj=>exact (h 1 v hj).1
 | 1,hj=>exact (h 2 v hj).1
 | 2,hj=>exact (h 3 v hj).1
 | 3,hj=>exact (h 4 v hj).1
theorem d_Z {Q:Nat→Prop} {w u:World} {a:Option Addr} {n:Nat} {zs:List Int} (hu:Below w.heap.size w u) (h:SlP Q w a n zs):Sl u a n zs:=(a_q (a_G hu) h).sl
def p_W (h g:Nat) (L:WoL) (jb:Nat) (vb lv le:Int):a_6:=[isV 0 (.pointer (some ⟨g,0,none⟩)),isV 1 (.pointer (some ⟨g,0,none⟩)),isV 2 (.pointer (some ⟨g,0,none⟩)),isV 3 (.pointer (some ⟨g,1,none⟩)),isV 4 (.pointer (some ⟨g,1,none⟩)),isV 5 (.agg #[.slice L.ws.a L.ws.n L.ws.c,.slice L.ts.a L.ts.n L.ts.c]),isV 6 (.pointer (some ⟨h,2,none⟩)),isV 7 (.int .i64 jb),isV 8 (.pointer (some ⟨h+1,jb,none⟩)),isV 9 (.int .i64 vb),isV 10 (.tuple #[.int .i64 lv,.int .i64 le]),isV 11 (.tuple #[.int .i64 lv,.int .i64 le]),isV 12 (.int .i64 lv),isV 13 (.int .i64 le),isV 14 (.int .i64 lv),isV 15 (.int .i64 le)]
theorem l_J (h g:Nat) (L:WoL) (jb:Nat) (vb lv le:Int):b_E (p_W h g  L  jb  vb lv le ):=a_c<|a_c<|a_c<|a_c<|a_c<|a_c<|a_c<|a_c<|a_c<|a_c<|a_c<|a_c<|a_c<|a_c<|a_c<|a_c<|a_2
end Go.Proofs.YtolabfafgbmdbaaGreatDoor
namespace Go.Proofs.YtolabfafgbmdbaaGreatDoor
open Go.RowKit
theorem d_7 {i:Ins} {m:Int} (h:c_f i m=true):(0≤i.1∧i.1 < 27)∧∀ k,k < 3→kOk i m (opSign.getD i.1.toNat []) k=true:=by
  simp only [c_f,Bool.and_eq_true,decide_eq_true_eq,List.all_eq_true] at h;exact ⟨h.1,fun k hk=>h.2 k (List.mem_range.2 hk)⟩
theorem d_B {i:Ins} {m:Int} (h:c_f i m=true) (ho:i.1=16∨i.1=17∨(19≤i.1∧i.1≤21)∨(23≤i.1∧i.1≤25)):(0≤i.2.1∧i.2.1≤7)∧(0≤i.2.2.1∧i.2.2.1≤7)∧((19≤i.1∧i.1≤21)→0≤i.2.2.2∧i.2.2.2≤7):=by
  obtain ⟨o,a,b,c⟩:=i;obtain ⟨-,h2⟩:=d_7 h;simp only at ho ⊢;have k0:=h2 0 (by omega);have k1:=h2 1 (by omega);have k2:=h2 2 (by omega)
  rcases (show o=16∨o=17∨o=19∨o=20∨o=21∨o=23∨o=24∨o=25 by omega) with rfl | rfl | rfl | rfl | rfl | rfl | rfl | rfl <;>
    (simp [kOk,opSign,c_6,b_j] at k0 k1 k2;omega)
theorem p_d {i:Ins} {m:Int} (h:c_f i m=true) (hm:m≤1000) (ho:1≤i.1∧i.1≤15):f_i i=true:=by
  obtain ⟨o,a,b,c⟩:=i;obtain ⟨-,h2⟩:=d_7 h;simp only at ho;have k0:=h2 0 (by omega);have k1:=h2 1 (by omega);have k2:=h2 2 (by omega)
  rcases (show o=1∨o=2∨o=3∨o=4∨o=5∨o=6∨o=7∨o=8∨o=9∨o=10∨o=11∨o=12∨o=13∨o=14∨o=15 by omega) with rfl | rfl | rfl | rfl | rfl | rfl | rfl | rfl | rfl | rfl | rfl | rfl | rfl | rfl | rfl <;>
    (simp [kOk,opSign,c_6,b_j] at k0 k1 k2
     simp [f_i,f_j,g_B,k_4,opd,List.range_succ]
     try omega)
end Go.Proofs.YtolabfafgbmdbaaGreatDoor
namespace Go.Proofs.YtolabfafgbmdbaaGreatDoor
open Go.ChangeShapes Go.WideShapes Go.ChangeAt Go.RowKit
open Gen
theorem n_Q {X:Wo} {pc:Int} (h0:0≤pc) (h1:pc < X.code.length):inW X pc∈X.code:=by
 exact J91
end Go.Proofs.YtolabfafgbmdbaaGreatDoor
namespace Go.Proofs.YtolabfafgbmdbaaGreatDoor
open Go.ChangeShapes Go.WideShapes Go.ChangeAt Go.RowKit
open Gen
open Lib (hid)
structure Wr (w:World) (g b o0:Nat) (L:WoL) (X:Wo) (k:Nat):Prop where
 x:a_p w g (wkC L X.D k)
 hb:L.th.a=some ⟨b,o0,none⟩
 th:Vs repTh Any w L.th.a L.th.n X.th
 co:Vs repIns Any w L.co.a L.co.n X.code
 ws:SlP Any w L.ws.a L.ws.n X.ws
 ts:SlP Any w L.ts.a L.ts.n X.ts
 bs:BlP Any w L.bs.a L.bs.n X.bs
 hk:k < X.th.length
 hn:X.th.length=L.th.n
theorem p_P {w w':World} {g b o0:Nat} {L:WoL} {X:Wo} {k:Nat} (hB:Below w.heap.size w w') (H:Wr w g b o0 L X k):Wr w' g b o0 L X k:=by
 have hK:=a_G (Q:=Any) hB;exact ⟨a_f hB H.x,H.hb,a_w hK H.th,a_w hK H.co,a_q hK H.ws,a_q hK H.ts,a_H hK H.bs,H.hk,H.hn⟩
theorem m_7 {w:World} {g b o0:Nat} {L:WoL} {X:Wo} {k:Nat} (H:Wr w g b o0 L X k):∃ fa fc la lc,ThQ Any w fa (thW X k).fs.length fc la (thW X k).lf.length lc (thW X k) ∧
  ∀ j v,(thC (thW X k) fa (thW X k).fs.length fc la (thW X k).lf.length lc)[j]?=some v→w.cell? ⟨b,o0+k*13+j,none⟩=some v∧True:=by
 obtain ⟨b1,o1,t,fa,fc,la,lc,e,ht,-,T,h⟩:=d_1 H.th (k:=k) (by have:=H.hk;have:=H.hn;omega);rw [H.hb] at e
 cases e
 rw [i_g H.hk] at ht
 cases ht
 exact ⟨fa,fc,la,lc,T,fun j v hj=>⟨h j v hj,trivial⟩⟩
theorem f_W (g b o0:Nat) (L:WoL) (X:Wo) (k:Nat) (w:World) (H:Wr w g b o0 L X k) :
  Calls Tryz.prog 78 #[.pointer (some ⟨g,0,none⟩)] w (fun e w'=>e=.returned (.pointer (some ⟨b,o0+k*13,none⟩))∧∃ m,w'=w.drewN m):=by
 exact J51
theorem m_k (g b o0:Nat) (L:WoL) (X:Wo) (k:Nat) (w:World) (H:Wr w g b o0 L X k) (hp0:0≤(thW X k).pc) :
  Calls Tryz.prog 79 #[.pointer (some ⟨g,0,none⟩)] w (j_A (inW X (thW X k).pc) (decide ((thW X k).pc < X.code.length)) w):=by
 obtain ⟨W,hW⟩:=nm (w.alloc (Obj.cells (inC (0,0,0,0)).toArray 66));have HR:=N114;have HB:=N1;have HH:=hid (p_P HB.out H);have HC:=hid (f_W g b o0 L X k W HH.out);obtain ⟨fa,fc,la,lc,-,ht⟩:=m_7 HH.out;obtain ⟨t0,-⟩:=ht 0 _ rfl;obtain ⟨x0,-⟩:=HH.out.x 0 _ rfl;have HW:=hid hW;obtain ⟨pc,hpc⟩:=mn ((thW X k).pc);rw [hpc] at t0 hp0;rw [hpc];have HL:=hid (show X.code.length=L.co.n from H.co.1);obtain ⟨i,hi⟩:=mn (inW X pc);rw [hi];have HI:=hid hi;obtain ⟨d,hd⟩:=mn (decide (pc < X.code.length));rw [hd];have HDD:=hid hd;clear hW H hpc ht hi hd
 go_enter Tryz.func79,Tryz.ntmps79
 go_upto_region 1 with fail
 rw [←HW.out]
 go_wp2_with fail
 refine HC.out.mono ?_;rintro e1 w1 ⟨rfl,m,rfl⟩;clear HC;have t1:W.cell? ⟨b,o0+k*13,none⟩=some (.int .i64 pc):=t0;exact J13
theorem i_u (g b o0:Nat) (L:WoL) (X:Wo) (k:Nat) (i:Ins) (w:World) (H:Wr w g b o0 L X k) (ha:0≤i.2.1∧i.2.1≤7) (hb:0≤i.2.2.1∧i.2.2.1≤7) (hw:(Lit.int .i64 (rgt (thW X k) i.2.2.1)).wf=true) :
  Calls Tryz.prog 82 #[.pointer (some ⟨g,0,none⟩),.agg #[.int .i64 i.1,.int .i64 i.2.1,.int .i64 i.2.2.1,.int .i64 i.2.2.2]] w (a_B (h_y X (thW X k) i) w):=by
 obtain ⟨o,ra,rb,c⟩:=i;simp only at ha hb hw ⊢;obtain ⟨ja,rfl⟩:∃ j:Nat,ra=j:=⟨ra.toNat,by omega⟩;obtain ⟨jb,rfl⟩:∃ j:Nat,rb=j:=⟨rb.toNat,by omega⟩;obtain ⟨y,hy⟩:=mn (h_y X (thW X k) (o,(ja:Int),(jb:Int),c));rw [hy];simp only [h_y,rgt,Int.toNat_natCast] at hy hw;obtain ⟨W,hW⟩:=nm (w.alloc (Obj.cells (inC (o,(ja:Int),(jb:Int),c)).toArray 66));have HI:=hid (show a_p W w.heap.size (inC (o,(ja:Int),(jb:Int),c)) by rw [hW];exact a_i _ _ rfl);have HB:=N1;have HSZ:=hid (show W.heap.size=w.heap.size+1 by rw [hW];simp);have HH:=hid (p_P HB.out H);have HC:=hid (f_W g b o0 L X k W HH.out);obtain ⟨fa,fc,la,lc,-,ht⟩:=m_7 HH.out;obtain ⟨t,htt⟩:=mn (thW X k);rw [htt] at ht hy hw;obtain ⟨va,hva⟩:=mn (t.r ja);obtain ⟨vb,hvb⟩:=mn (t.r jb)
 have HT:=hid (show W.rangeAt b (o0+k*13+1) (rgC t.r) from fun j v hj=>by
  have h1:=N115;rw [Nat.add_assoc];refine (ht (1+j) v ?_).1;rw [←hj]
  rcases (show j=0∨j=1∨j=2∨j=3∨j=4∨j=5∨j=6∨j=7 by omega) with rfl | rfl | rfl | rfl | rfl | rfl | rfl | rfl <;> rfl)
 have ⟨HW,HY,HWF,HVA,HVB⟩:=hh5 hW hy hw hva hvb;clear hW H ht hy hw hva hvb
 go_enter Tryz.func82,Tryz.ntmps82
 go_upto_region 1 with fail
 rw [←HW.out]
 go_wp2_with fail
 refine HC.out.mono ?_;rintro e1 w1 ⟨rfl,m,hm⟩;have HB1:=N97;have HZ1:=hid (show w1.heap.size=w.heap.size+1 by rw [hm,←HSZ.out];rfl);have HT1:=hid (show w1.rangeAt b (o0+k*13+1) (rgC t.r) from fun j v hj=>a_n HB1.out (HT.out j v hj));clear HC hm HT
 go_upto_region 2 with (first | (refine wpList_load_mid rfl 43 _ rfl b (o0+k*13+1) rfl (rgC t.r) _ HT1.out Tryz.underlying43 rfl (by kernel_rfl) ?_) | (refine a_h rfl 43 _ _ rfl w1.heap.size (rgC t.r).toArray rfl rfl _ (a_i rgZ w1.heap.size rfl) rfl (by kernel_rfl) (by simp [Value.oneCell']) ?_;intro V HV))
 have HR2:=N90;have HB2:=N47;have HI2:=hid (a_f HB2.out HI.out);have HH2:=hid (p_P HB2.out HH.out);rw [HZ1.out] at HR2 ⊢;have HL:=hid (fun (u:World) (hu:Below V.heap.size V u)=>f_n L.ws.a L.ts.a L.ws.n L.ws.c L.ts.n L.ts.c X.ws X.ts vb u (d_Z hu HH2.out.ws) (d_Z hu HH2.out.ts) (by rw [←HVB.out];exact HWF.out));obtain ⟨lv,hlv⟩:=mn (b_T X.ws X.ts vb);obtain ⟨le,hle⟩:=mn (a_L X.ws X.ts vb);rw [hlv,hle] at HL;have HYV:=hid (show (decide (le≠0)||decide (lv≠va))=y by rw [←HY.out];subst hlv hle;have ha:=HVA.out;have hb:=HVB.out;subst ha hb;rfl);obtain ⟨x1,-⟩:=HH2.out.x 1 _ rfl;obtain ⟨x2,-⟩:=HH2.out.x 2 _ rfl;obtain ⟨q2,-⟩:=HI2.out 2 _ rfl;obtain ⟨q1,-⟩:=HI2.out 1 _ rfl;have i1:(0:Int)≤jb:=by omega
 have i2:(jb:Int) < 8:=by omega
 have i3:(0:Int)≤ja:=by omega
 have i4:(ja:Int) < 8:=by omega
 obtain ⟨r1,-⟩:=HR2.out jb _ (e_n t.r jb (by omega) _);obtain ⟨r2,-⟩:=HR2.out ja _ (e_n t.r ja (by omega) _);rw [HVA.out] at r2;rw [HVB.out] at r1;clear hlv hle HV HR2;have hG:=l_J w.heap.size g L jb vb lv le
 go_upto_region 2 with fail
 refine e_I [some 14,some 15,some 16,some 17,some 18,some 19,some 20,some 21,some 22,some 23,some 24,some 13,some 25,some 26,some 6,some 7] (fun w'=>Below V.heap.size V w') (p_W w.heap.size g L jb vb lv le) 100 100 (fun _ _ _=>True) (by kernel_rfl) (by kernel_rfl) (by decide) rfl ((Below.refl _ _).drew) ?_ ?_
 ·show StepsL _ _ _ _ _ _ _
  refine InvD.c (fun _ _ w1 C _ hK=>oR C hK (h:=by simp [execOp,go_sem,C.o 0 (.pointer (some ⟨g,0,none⟩))])) ?_;refine InvD.c (fun _ _ w1 C _ hK=>oR C hK (h:=by simp [execOp,go_sem,C.i 0])) ?_;refine InvD.c (fun _ _ w1 C _ hK=>oR C hK (h:=by simp [execOp,go_sem,C.i 1])) ?_;refine InvD.c (fun _ _ w1 C _ hK=>oR C hK (h:=by simp [execOp,go_sem,C.i 2])) ?_;refine InvD.c (fun _ _ w1 C _ hK=>oR C hK (h:=by simp [execOp,go_sem,C.i 3])) ?_;refine InvD.c (fun a1 vals w1 C K hK=>?_) ?_
  ·have e0:=C.i 4;exact J63
  refine InvD.c (fun _ _ w1 C _ hK=>oR C hK (h:=by simp [execOp,go_sem,C.o 3 (.pointer (some ⟨w.heap.size,0,none⟩))])) ?_;refine InvD.c (fun _ _ w1 C _ hK=>oR C hK (h:=by simp [execOp,go_sem,C.i 6,a_n C.base q2])) ?_;refine InvD.c (fun _ _ w1 C _ hK=>oR C hK (h:=by simp [execOp,go_sem,C.o 5 (.pointer (some ⟨w.heap.size+1,0,none⟩)),C.i 7,i1,i2])) ?_;refine InvD.c (fun _ _ w1 C _ hK=>oR C hK (h:=by simp [execOp,go_sem,C.i 8,a_n C.base r1])) ?_;refine InvD.c (fun a1 vals w1 C K hK=>?_) ?_
  ·have e0:=C.i 5;have e1:=C.i 9;rw [a_s] at e0 e1;refine a_d rfl (a_x _ _ _ rfl 112 rfl [.agg #[.slice L.ws.a L.ws.n L.ws.c,.slice L.ts.a L.ts.n L.ts.c],.int .i64 vb] (by simp only [List.map_cons,List.map_nil,e0,e1]) (by kernel_rfl) ((HL.out w1 C.base).mono ?_));rintro e9 w2 ⟨rfl,hb2⟩;exact J33
  refine InvD.c (fun _ _ w1 C _ hK=>oR C hK (h:=by simp [execOp,go_sem,C.i 10])) ?_;refine InvD.c (fun _ _ w1 C _ hK=>oR C hK (h:=by simp [execOp,go_sem,C.i 11])) ?_;refine InvD.c (fun _ _ w1 C _ hK=>oR C hK (h:=by simp [execOp,go_sem,C.i 11])) ?_;refine InvD.c (fun _ _ w1 C _ hK=>oR C hK (h:=by simp [execOp,go_sem,C.i 12])) ?_;refine InvD.c (fun _ _ w1 C _ hK=>oR C hK (h:=by simp [execOp,go_sem,C.i 13])) ?_;exact StepsL.nil
 ·intro vals w1 hb hv hbo;have y10:vals 14=.int .i64 lv:=List.head_eq_of_cons_eq (hv 14 (by decide));have y11:vals 15=.int .i64 le:=List.head_eq_of_cons_eq (hv 15 (by decide));simp only [b_Y,Act.put,sA,sB,sC,y10,y11];have q1':=a_n hb q1;have r2':=a_n hb r2;have HB3:=hid (show Below w.heap.size w w1 from a_b HB.out (a_b HB2.out hb));clear hb hv hbo y10 y11 HL x1 x2 q1 q2 r1 r2 hG
  by_cases e0:le=0
  ·subst e0;have HYW:=hid (show (lv != va)=y by rw [←HYV.out];by_cases e:lv=va <;> simp [e])
   go_wp2_with fail
   go_ret
   exact a_e HYW.out.symm HB3.out
  ·have hk0:(le != 0)=true:=by simpa using e0
   go_wp2_with fail
   go_ret
   exact a_e (s:=true) (by rw [←HYV.out];simp [e0]) HB3.out
theorem j_G (g b o0:Nat) (L:WoL) (X:Wo) (k:Nat) (w:World) (H:Wr w g b o0 L X k) (hrw:a_5 X=true) (hwf:∀ j,j < 8→(Lit.int .i64 ((thW X k).r j)).wf=true) :
  Calls Tryz.prog 39 #[.pointer (some ⟨g,0,none⟩)] w (a_B (k_o X k) w):=by
 obtain ⟨y,hy⟩:=mn (k_o X k);rw [hy];obtain ⟨hrc,hrm,hrl,hro⟩:=b_I hrw
 have HCI:=hid (show ∀ i∈X.code,c_f i X.code.length=true by
  simp only [b_q,Bool.and_eq_true,decide_eq_true_eq,List.all_eq_true] at hrc;exact hrc.2)
 have hrt:b_c (thW X k)=true:=by
  have h:=hro _ (List.mem_of_getElem? (i_g H.hk));simp only [h_a,Bool.and_eq_true] at h;exact h.1
 have hpc0:0≤(thW X k).pc∧(thW X k).pc≤1000:=by
  simp only [b_c,Bool.and_eq_true,decide_eq_true_eq] at hrt;exact hrt.1.1.1
 have hlf8:(thW X k).lf.length≤8:=(c_8 hrt).2;obtain ⟨D,hD⟩:=mn (X.D);obtain ⟨bb,bo,q,c,hba,hbc,-,-⟩:=l_p H.bs (i:=k) (by have:=H.bs.1;have:=H.hk;omega);obtain ⟨bl,hbl⟩:=mn ((X.bs.getD k []).length);have HBL:=hid (show (bfW X k).length=bl from hbl);rw [hbl] at hbc;obtain ⟨x4,-⟩:=H.x 4 _ rfl;obtain ⟨x7,-⟩:=H.x 7 _ rfl;rw [hba] at x4;have i1:(0:Int)≤k:=by omega
 have i2:(k:Int) < L.bs.n:=by have:=H.bs.1;have:=H.hk;omega
 obtain ⟨fa,fc,la,lc,TQ,ht⟩:=m_7 H;obtain ⟨t10,-⟩:=ht 10 _ rfl;have q:=fun (d:Nat)=>f_W g b o0 L X k (w.drewN d) (p_P (below_drewN (Below.refl _ _) d) H)
 have ⟨HH,HRW,HWF,HPC,HLF⟩:=hh5 H hrw hwf hpc0 hlf8;have HN:=hid (fun (u:World) (hu:Below w.heap.size w u)=>m_k g b o0 L X k u (p_P hu H) hpc0.1);have ⟨HT,HTQ⟩:=hh2 ht TQ;obtain ⟨t,htt⟩:=mn (thW X k);rw [htt] at t10 HN HT HTQ HWF HPC HLF;have HTT:=hid htt;have HY:=hid (show p_R X t (bfW X k)=y by rw [←hy,k_o,htt]);have HD:=hid hD;clear hy hrc hrm hrl hro hrt hpc0 hlf8 hD hba hbl ht htt H hrw hwf TQ
 go_enter Tryz.func39,Tryz.ntmps39
 go_upto_region 1 with fail
 go_quiet ((go_at_call 78;exact Calls.quiet_of (q _)))
 clear q x4 hbc x7;have t10:(w.drewN nq).cell? ⟨b,o0+k*13+10,none⟩=_:=t10;have HB0:=hid (show Below w.heap.size w (w.drewN nq) from below_drewN (Below.refl _ _) nq);obtain ⟨W,hW⟩:=nm (w.drewN nq);rw [←hW] at t10 HB0 ⊢;clear hW;have HH0:=hid (p_P HB0.out HH.out)
 by_cases st0:t.st=0
 ·have hs0:(t.st != 0)=false:=by simp [st0]
  have HST:=hid st0;clear st0;have HC:=hid (HN.out W HB0.out);clear HN
  go_wp2_with fail
  refine HC.out.mono ?_;clear HC;rintro e1 w1 ⟨rfl,hb1⟩;have HB1:=hid (a_b HB0.out hb1);clear hb1 t10 hs0;obtain ⟨i,hi⟩:=mn (inW X t.pc);rw [hi];have HI:=hid hi;obtain ⟨d,hd⟩:=mn (decide (t.pc < X.code.length));rw [hd];have HDD:=hid hd;clear hi hd
  go_upto_region 5 with (refine a_h rfl 66 _ _ rfl w1.heap.size (inC i).toArray rfl rfl _ (a_i (inC (0,0,0,0)) w1.heap.size rfl) rfl (by kernel_rfl) (by simp [Value.oneCell']) ?_;intro U HU)
  have HIU:=hid (show a_p U w1.heap.size (inC i) by rw [HU.out];exact a_r (a_i (inC (0,0,0,0)) _ rfl) rfl);have HBU:=N30;have HHU:=hid (p_P HBU.out HH.out);clear HU
  cases d with
  | false =>
   have HYV:=hid (show true=y by
    rw [←HY.out,p_R,if_neg (by rw [HST.out];simp),if_pos (by have:=of_decide_eq_false HDD.out;omega)])
   go_wp2_with fail
   go_ret
   exact a_e (s:=true) HYV.out.symm HBU.out
  | true =>
   have HYI:=hid (show o_4 X t (bfW X k) i=y by
    rw [←HY.out,p_R,if_neg (by rw [HST.out];simp),if_neg (by have:=of_decide_eq_true HDD.out;omega),HI.out])
   have HMI:=hid (show c_f i X.code.length=true from HCI.out _ (by rw [←HI.out];exact n_Q HPC.out.1 (of_decide_eq_true HDD.out)));obtain ⟨op,ra,rb,rc⟩:=i;obtain ⟨q0,-⟩:=HIU.out 0 _ rfl;obtain ⟨x3,-⟩:=HHU.out.x 3 _ rfl;rw [HD.out] at x3
   by_cases h17:op=17
   ·subst h17;have HYV:=hid (show decide (D=0∨(bl:Int) < D)=y by rw [←HYI.out,o_4,if_pos rfl,HBL.out,HD.out])
    by_cases hD0:D=0
    ·have hd0:(D==0)=true:=by simpa using hD0
     have HYW:=hid (show true=y by rw [←HYV.out,decide_eq_true (.inl hD0)]);clear hD0
     go_wp2_with fail
     go_ret
     exact a_e (s:=true) HYW.out.symm HBU.out
    ·have hd0:(D==0)=false:=by simpa using hD0
     have HYW:=hid (show decide ((bl:Int) < D)=y by
      rw [←HYV.out]
      by_cases e:(bl:Int) < D
      ·rw [decide_eq_true e,decide_eq_true (.inr e)]
      ·rw [decide_eq_false e,decide_eq_false (fun h=>h.elim hD0 e)])
     clear hD0
     go_wp2_with fail
     go_ret
     exact a_e HYW.out.symm HBU.out
   ·by_cases hf:op=18∨op=19∨op=20∨op=21
    ·have HYV:=hid (show decide (bl=0)=y by rw [←HYI.out,o_4,if_neg h17,if_pos hf,HBL.out])
     have HYW:=hid (show ((bl:Int)==0)=y by
      rw [←HYV.out]
      by_cases e:bl=0
      ·subst e;simp
      ·rw [decide_eq_false e];simp;omega)
     rcases hf with rfl | rfl | rfl | rfl
     ·exact J73
     ·exact J73
     ·exact J73
     ·exact J73
    ·by_cases h22:op=22
     ·subst h22;have HYV:=hid (show o_x t.lf=y by rw [←HYI.out,o_4,if_neg (by simp),if_neg (by simp),if_pos rfl];rfl);have HTU:=hid (fun j v hj=>a_n HBU.out (HT.out j v hj).1);have t12:=HTU.out 12 _ rfl;have HC:=hid (n_o la t.lf.length lc t.lf U (f_6 (a_w (a_G HBU.out) HTQ.out.lf)) (by have:=HLF.out;omega));obtain ⟨lm,hlm⟩:=mn (t.lf.length);rw [hlm] at t12 HC;obtain ⟨az,haz⟩:=mn (o_x t.lf);rw [haz] at HC HYV;clear hlm haz
      go_wp2_with fail
      refine HC.out.mono ?_;clear HC;rintro e2 w2 ⟨rfl,hb2⟩;have HB2:=hid (a_b HBU.out hb2);clear hb2
      go_wp2_with fail
      go_ret
      exact a_e (by rw [←HYV.out]) HB2.out
     ·by_cases h23:op=23
      ·subst h23;obtain ⟨ha,hb,-⟩:=d_B HMI.out (by simp);simp only at ha hb;have HYV:=hid (show (decide (bl=0)&&h_y X t (23,ra,rb,rc))=y by rw [←HYI.out,o_4,if_neg (by simp),if_neg (by simp),if_neg (by simp),if_pos rfl,HBL.out];rfl)
       by_cases hb0:bl=0
       ·have HYW:=hid (show h_y X t (23,ra,rb,rc)=y by rw [←HYV.out,decide_eq_true hb0,Bool.true_and])
        have HC0:=i_u g b o0 L X k (23,ra,rb,rc) U HHU.out ha hb (by
         obtain ⟨j,hj⟩:∃ j:Nat,rb=j:=⟨rb.toNat,by omega⟩;subst hj;rw [HTT.out,rgt,Int.toNat_natCast];exact HWF.out j (by omega))
        rw [HTT.out,HYW.out] at HC0;have HC:=hid HC0;obtain ⟨q1,-⟩:=HIU.out 1 _ rfl;obtain ⟨q2,-⟩:=HIU.out 2 _ rfl;obtain ⟨q3,-⟩:=HIU.out 3 _ rfl;clear HC0 ha hb;subst hb0
        go_wp2_with fail
        refine HC.out.mono ?_;clear HC;rintro e2 w2 ⟨rfl,hb2⟩;have HB2:=hid (a_b HBU.out hb2);clear hb2
        go_wp2_with fail
        go_ret
        exact a_e rfl HB2.out
       ·have HYW:=hid (show false=y by rw [←HYV.out,decide_eq_false hb0,Bool.false_and]);have hk0:((bl:Int)==0)=false:=by simp;omega
        clear hb0 ha hb
        go_wp2_with fail
        go_ret
        exact a_e (s:=false) HYW.out.symm HBU.out
      ·have HYV:=hid (show true=y by rw [←HYI.out,o_4,if_neg h17,if_neg hf,if_neg h22,if_neg h23]);have q17:(op==17)=false:=by simp;omega
       have q18:(op==18)=false:=by simp;omega
       have q19:(op==19)=false:=by simp;omega
       have q20:(op==20)=false:=by simp;omega
       have q21:(op==21)=false:=by simp;omega
       have q22:(op==22)=false:=by simp;omega
       have q23:(op==23)=false:=by simp;omega
       clear h17 hf h22 h23
       go_wp2_with fail
       go_ret
       exact a_e (s:=true) HYV.out.symm HBU.out
 ·have hs0:(t.st != 0)=true:=by simpa using st0
  have HYV:=hid (show false=y by rw [←HY.out,p_R,if_pos st0]);clear HN
  go_wp2_with fail
  go_ret
  exact a_e (s:=false) HYV.out.symm HB0.out
end Go.Proofs.YtolabfafgbmdbaaGreatDoor
