import Derived.Test.YtogdpojnbgeknaaGreatDoorT1
import Derived.WalkSpells
import Derived.Test.YtogdpojnbgeknaaGreatDoorT0
import Derived.Deep.DeepCutAuto
import Derived.Deep.RegionLaw
set_option maxRecDepth 100000
set_option maxHeartbeats 16000000
namespace Go.Proofs.YtogdpojnbgeknaaGreatDoor
open Go.ChangeShapes Go.WideShapes Go.ChangeAt Go.RowKit
open Gen
abbrev Fr:=Int×Int×Int×Int×Int
def d_8 (y:Fr):List Value:=[.int .i64 y.1,.int .i64 y.2.1,.int .i64 y.2.2.1,.int .i64 y.2.2.2.1,.int .i64 y.2.2.2.2]
def repFr:Rep Fr:=q_3 5 (by decide) d_8 (fun _=>rfl)
theorem s_n {w:World} {p:Option Addr} {n:Nat} {t:List Fr} (S:Vs repFr Any w p n t) {k:Nat} (hk:k < n) :
  ∃ b o x0 x1 x2 x3 x4,p=some ⟨b,o,none⟩∧t[k]?=some (x0,x1,x2,x3,x4)∧w.cell? ⟨b,o+k*5,none⟩=some (.int .i64 x0)∧w.cell? ⟨b,o+k*5+1,none⟩=some (.int .i64 x1)∧w.cell? ⟨b,o+k*5+2,none⟩=some (.int .i64 x2)∧w.cell? ⟨b,o+k*5+3,none⟩=some (.int .i64 x3)∧w.cell? ⟨b,o+k*5+4,none⟩=some (.int .i64 x4):=by
 obtain ⟨b,o,⟨x0,x1,x2,x3,x4⟩,e,ht,_,cs,h1,h2⟩:=j_P S hk;have h1:cs=d_8 (x0,x1,x2,x3,x4):=h1;subst h1;rw [show repFr.k=5 from rfl] at h2;exact ⟨b,o,x0,x1,x2,x3,x4,e,ht,h2 0 _ rfl,h2 1 _ rfl,h2 2 _ rfl,h2 3 _ rfl,h2 4 _ rfl⟩
theorem l_K {w:World} {p:Option Addr} {n:Nat} {t:List Int} (S:Vs repInt Any w p n t) {k:Nat} (hk:k < n) :
  ∃ b o x,p=some ⟨b,o,none⟩∧t[k]?=some x∧w.cell? ⟨b,o+k,none⟩=some (.int .i64 x):=by
 obtain ⟨b,o,x,e,ht,_,h⟩:=j_P S hk;rw [show repInt.k=1 from rfl,Nat.mul_one] at h;exact ⟨b,o,x,e,ht,n_K h⟩
def Cap (a:Option Addr) (n c:Nat):Prop:=n≤c∧c≤9223372036854775807∧(a=none→c=0)
theorem b_T:Cap none 0 0:=⟨Nat.le_refl _,by omega,fun _=>rfl⟩
structure Thr where
 pc:Int
 r:Nat→Int
 fs:List Fr
 st:Int
 ft:Int
 lf:List Int
abbrev thC (t:Thr) (a:Option Addr) (n c:Nat) (b:Option Addr) (m d:Nat):List Value:=[.int .i64 t.pc,.int .i64 (t.r 0),.int .i64 (t.r 1),.int .i64 (t.r 2),.int .i64 (t.r 3),.int .i64 (t.r 4),.int .i64 (t.r 5),.int .i64 (t.r 6),.int .i64 (t.r 7),.slice a n c,.int .i64 t.st,.int .i64 t.ft,.slice b m d]
abbrev rgC (r:Nat→Int):List Value:=[.int .i64 (r 0),.int .i64 (r 1),.int .i64 (r 2),.int .i64 (r 3),.int .i64 (r 4),.int .i64 (r 5),.int .i64 (r 6),.int .i64 (r 7)]
abbrev rgZ:List Value:=[.int .i64 0,.int .i64 0,.int .i64 0,.int .i64 0,.int .i64 0,.int .i64 0,.int .i64 0,.int .i64 0]
abbrev thN:List Value:=[.int .i64 0,.int .i64 0,.int .i64 0,.int .i64 0,.int .i64 0,.int .i64 0,.int .i64 0,.int .i64 0,.int .i64 0,.slice none 0 0,.int .i64 0,.int .i64 0,.slice none 0 0]
abbrev tkC (t:Thr) (a:Option Addr) (n c:Nat) (b:Option Addr) (m d:Nat) (s:Int) (i:Int×Int×Int×Int):List Value:=[.int .i64 t.pc,.int .i64 (t.r 0),.int .i64 (t.r 1),.int .i64 (t.r 2),.int .i64 (t.r 3),.int .i64 (t.r 4),.int .i64 (t.r 5),.int .i64 (t.r 6),.int .i64 (t.r 7),.slice a n c,.int .i64 t.st,.int .i64 t.ft,.slice b m d,.int .i64 s,.int .i64 i.1,.int .i64 i.2.1,.int .i64 i.2.2.1,.int .i64 i.2.2.2]
def d_E:Thr:=⟨0,fun _=>0,[],0,0,[]⟩
structure ThF (w:World) (fa:Option Addr) (fn fc:Nat) (la:Option Addr) (ln lc:Nat) (t:Thr):Prop where
 fcap:Cap fa fn fc
 fs:Vs repFr Any w fa fn t.fs
 lcap:Cap la ln lc
 lf:Vs repInt Any w la ln t.lf
theorem d_a {w w':World} {fa la:Option Addr} {fn fc ln lc:Nat} {t:Thr} (hb:Below w.heap.size w w') (h:ThF w fa fn fc la ln lc t):ThF w' fa fn fc la ln lc t:=
 ⟨h.fcap,g_B hb h.fs,h.lcap,g_B hb h.lf⟩
def c_n (fs:List Fr):Bool:=decide (fs.length≤6)&&fs.all (fun f=>decide (0≤f.1∧f.1≤1000))
def b_4 (l:List Int):Bool:=decide (l.length≤8)&&l.all (fun n=>decide (0≤n∧n≤8))
def f_x (st ft:Int):Bool:=decide ((st=2∧1≤ft∧ft≤16)∨((st=0∨st=1)∧ft=0))
def a_1 (t:Thr):Bool:=decide (0≤t.pc∧t.pc≤1000)&&c_n t.fs&&f_x t.st t.ft&&b_4 t.lf
def n_u (fs:List Fr) (k:Nat):Prop:=∀ i f,i < k→fs[i]?=some f→0≤f.1∧f.1≤1000
theorem m_A {fs:List Fr} {k:Nat} {f:Fr} (h:n_u fs k) (hf:fs[k]?=some f) (h1:0≤f.1∧f.1≤1000):n_u fs (k+1):=by
 intro i g hi hg
 by_cases e:i=k
 ·subst e;rw [hf] at hg;cases hg;exact h1
 ·exact h i g (by omega) hg
theorem k_0 {fs:List Fr} {n:Nat} (hl:fs.length=n) (hn:n≤6) (h:n_u fs n):c_n fs=true:=by
 simp only [c_n,Bool.and_eq_true,decide_eq_true_eq,List.all_eq_true];exact J98
theorem m_2 {fs:List Fr} {k:Nat} {f:Fr} (hf:fs[k]?=some f) (h:¬ (0≤f.1∧f.1≤1000)):c_n fs=false:=by
 cases hr:c_n fs with
 | false=>rfl
 | true =>
  simp only [c_n,Bool.and_eq_true,decide_eq_true_eq,List.all_eq_true] at hr;exact absurd (hr.2 f (List.mem_of_getElem? hf)) h
theorem j_E {fs:List Fr} (h:¬ fs.length≤6):c_n fs=false:=by simp [c_n,h]
theorem k_Z {fs:List Fr} (h:c_n fs=true):fs.length≤6:=by
 simp only [c_n,Bool.and_eq_true,decide_eq_true_eq] at h;exact h.1
def t_l (fs:List Int) (k:Nat):Prop:=∀ i f,i < k→fs[i]?=some f→0≤f∧f≤8
theorem o_t {fs:List Int} {k:Nat} {f:Int} (h:t_l fs k) (hf:fs[k]?=some f) (h1:0≤f∧f≤8):t_l fs (k+1):=by
 intro i g hi hg
 by_cases e:i=k
 ·subst e;rw [hf] at hg;cases hg;exact h1
 ·exact h i g (by omega) hg
theorem k_2 {fs:List Int} {n:Nat} (hl:fs.length=n) (hn:n≤8) (h:t_l fs n):b_4 fs=true:=by
 simp only [b_4,Bool.and_eq_true,decide_eq_true_eq,List.all_eq_true];exact J98
theorem m_3 {fs:List Int} {k:Nat} {f:Int} (hf:fs[k]?=some f) (h:¬ (0≤f∧f≤8)):b_4 fs=false:=by
 cases hr:b_4 fs with
 | false=>rfl
 | true =>
  simp only [b_4,Bool.and_eq_true,decide_eq_true_eq,List.all_eq_true] at hr;exact absurd (hr.2 f (List.mem_of_getElem? hf)) h
theorem j_F {fs:List Int} (h:¬ fs.length≤8):b_4 fs=false:=by simp [b_4,h]
theorem k_1 {fs:List Int} (h:b_4 fs=true):fs.length≤8:=by
 simp only [b_4,Bool.and_eq_true,decide_eq_true_eq] at h;exact h.1
theorem d_M (t e:TypeId) (a:Option Addr) (n c:Nat) (h:Tryz.prog.underlying t=some (.slice e)) (w:World):(binOp .eql t (.slice a n c) (.slice none 0 0)).run Tryz.prog w=.ok (.bool a.isNone) w:=by
 simp only [binOp];simp [Op.equal,Op.maxDepth,Lib.run_equalIn_slice_nil w 9999 t e a n c 0 0 h]
theorem e_I {α:Type} {k:Nat} {hk:0 < k} {f:α→List Value} {hf:∀ y,(f y).length=k} {Q:Nat→Prop} {w:World}:∀ (ys:List α),d_s (q_3 k hk f hf) Q w (ys.flatMap f) ys
 | []=>rfl
 | y::ys=>⟨f y,ys.flatMap f,rfl,rfl,e_I ys⟩
theorem j_Q {α:Type} {k:Nat} {hk:0 < k} {f:α→List Value} {hf:∀ y,(f y).length=k} {Q:Nat→Prop} {w:World} {a:Option Addr} {n:Nat} {ys:List α} (h:Vs (q_3 k hk f hf) Q w a n ys):∀ b,a=some b→∀ j u,(ys.flatMap f)[j]?=some u→w.cell? (b.add j)=some u:=by
 intro b hb j u hu;have hfl:=e_I (hk:=hk) (hf:=hf) (Q:=Q) (w:=w) ys;have hlen:(ys.flatMap f).length=ys.length*k:=b_f hfl;have hj:j < ys.length*k:=by rw [←hlen];exact (List.getElem?_eq_some_iff.1 hu).1
 have hd:j / k < ys.length:=(Nat.div_lt_iff_lt_mul hk).2 hj;obtain ⟨h1,h2⟩:=h;have h0:0 < ys.length:=Nat.lt_of_le_of_lt (Nat.zero_le _) hd;obtain ⟨b',o,e,_,r⟩:=h2.resolve_left (by omega);rw [hb] at e
 injection e with e
 subst e;obtain ⟨cs,e1,e2⟩:=r (j / k) _ (List.getElem?_eq_getElem hd);have e1:cs=f ys[j / k]:=e1;subst e1;obtain ⟨c,e3,e4⟩:=f_3 hfl (j / k) _ (List.getElem?_eq_getElem hd);have e3:c=f ys[j / k]:=e3;subst e3;have hm:j % k < (f ys[j / k]).length:=by rw [hf];exact Nat.mod_lt _ hk
 have e5:=e4 (j % k) _ (List.getElem?_eq_getElem hm);have e6:=e2 (j % k) _ (List.getElem?_eq_getElem hm);have e7:j / k*(q_3 k hk f hf).k+j % k=j:=Nat.div_add_mod' j k;rw [e7] at e5;rw [Nat.add_assoc,e7] at e6;rw [Gen.add_plain,e6,←e5,hu]
end Go.Proofs.YtogdpojnbgeknaaGreatDoor
namespace Go.Proofs.YtogdpojnbgeknaaGreatDoor
open Go.ChangeShapes Go.WideShapes Go.ChangeAt Go.RowKit
open Gen
open Lib (hid)
theorem c_d (v m:Int) (w:World):Calls Tryz.prog 74 #[.int .i64 v,.int .i64 m] w (g_Q (decide (0≤v∧v≤m)) w):=by
 go_enter Tryz.func74,Tryz.ntmps74
 exact J86
theorem e_K (a:Option Addr) (n c:Nat) (fs:List Fr) (w:World) (S:Vs repFr Any w a n fs) (hn:n≤9223372036854775807) :
  Calls Tryz.prog 75 #[.slice a n c] w (b_l (c_n fs) w):=by
 have Hn:=hid S.1
 by_cases h6:n≤6
 ·have i6:¬ (6:Int) < n:=by omega
  go_enter Tryz.func75,Tryz.ntmps75
  go_wp2
  go_loopw [10] (fun i wr=>∃ k:Nat,k≤n∧i=.int .i64 k∧Hid (n_u fs k)∧Below w.heap.size w wr) (fun i _=>n - (intOf i).toNat)
  case atStart=>exact ⟨0,by omega,rfl,(show n_u fs 0 from fun i f hi=>by omega),Below.refl _ _⟩
  case round =>
   obtain ⟨k,hk,rfl,hf,hb⟩:=hrel;obtain ⟨wo,hwo⟩:∃ wo:World,wo=wr:=⟨_,rfl⟩;subst hwo
   by_cases hlt:k < n
   ·obtain ⟨b,o,x0,x1,x2,x3,x4,rfl,hx,g0,g1,g2,g3,g4⟩:=s_n (g_B hb S) hlt;have ⟨HX,HB⟩:=hh2 hx hb;have i1:(0:Int)≤k:=by omega
    have i2:(k:Int) < n:=by omega
    clear hx hb
    by_cases h0:0≤x0∧x0≤1000
    ·have HS:=hid (m_A hf.out HX.out h0);have HD:=hid (show decide (0≤x0∧x0≤1000)=true by simpa using h0);clear h0
     go_wp2_with fail
     refine (c_d x0 1000 _).mono ?_;rintro e w1 ⟨rfl,h1⟩
     cases h1
     rw [HD.out]
     go_wp2
     go_roundw
     case rel=>exact ⟨k+1,by omega,by go_num,HS.out,HB.out.alloc HB.out.size _⟩
     case measure=>simp [intOf];omega
    ·have HS:=hid (m_2 HX.out h0);have HD:=hid (show decide (0≤x0∧x0≤1000)=false by simpa using h0);clear h0
     go_wp2_with fail
     refine (c_d x0 1000 _).mono ?_;rintro e w1 ⟨rfl,h1⟩
     cases h1
     rw [HD.out]
     go_wp2
     go_ret
     exact a_k HS.out (HB.out.alloc HB.out.size _)
   ·obtain rfl:k=n:=by omega
    have HB:=hid hb;clear hb
    go_wp2
    go_ret
    exact a_k (k_0 Hn.out h6 hf.out) HB.out
 ·have i6:(6:Int) < n:=by omega
  have HS:=hid (j_E (fs:=fs) (by rw [Hn.out];exact h6));clear h6
  go_enter Tryz.func75,Tryz.ntmps75
  go_wp2
  go_ret
  exact a_k HS.out (Below.refl _ _)
theorem i_u (a:Option Addr) (n c:Nat) (fs:List Int) (w:World) (S:Vs repInt Any w a n fs) (hn:n≤9223372036854775807) :
  Calls Tryz.prog 77 #[.slice a n c] w (g_Q (b_4 fs) w):=by
 have Hn:=hid S.1
 by_cases h6:n≤8
 ·have i6:¬ (8:Int) < n:=by omega
  go_enter Tryz.func77,Tryz.ntmps77
  go_wp2
  go_loop [10] (fun i=>∃ k:Nat,k≤n∧i=.int .i64 k∧Hid (t_l fs k)) (fun i=>n - (intOf i).toNat)
  case atStart=>exact ⟨0,by omega,rfl,(show t_l fs 0 from fun i f hi=>by omega)⟩
  case round =>
   obtain ⟨k,hk,rfl,hf⟩:=hrel
   by_cases hlt:k < n
   ·obtain ⟨b,o,x0,rfl,hx,g0⟩:=l_K S hlt;have HX:=hid hx;have i1:(0:Int)≤k:=by omega
    have i2:(k:Int) < n:=by omega
    clear hx
    by_cases h0:0≤x0∧x0≤8
    ·have HS:=hid (o_t hf.out HX.out h0);have HD:=hid (show decide (0≤x0∧x0≤8)=true by simpa using h0);clear h0
     go_wp2_with fail
     refine (c_d x0 8 _).mono ?_;rintro e w1 ⟨rfl,h1⟩
     cases h1
     rw [HD.out]
     go_wp2
     go_round
     case rel=>exact ⟨k+1,by omega,by go_num,HS.out⟩
     case measure=>simp [intOf];omega
    ·have HS:=hid (m_3 HX.out h0);have HD:=hid (show decide (0≤x0∧x0≤8)=false by simpa using h0);clear h0
     go_wp2_with fail
     refine (c_d x0 8 _).mono ?_;rintro e w1 ⟨rfl,h1⟩
     cases h1
     rw [HD.out]
     go_wp2
     go_ret
     exact c_P HS.out
   ·obtain rfl:k=n:=by omega
    go_wp2
    go_ret
    exact c_P (k_2 Hn.out h6 hf.out)
 ·have i6:(8:Int) < n:=by omega
  have HS:=hid (j_F (fs:=fs) (by rw [Hn.out];exact h6));clear h6
  go_enter Tryz.func77,Tryz.ntmps77
  go_wp2
  go_ret
  exact c_P HS.out
theorem f_l (t:Thr) (fa la:Option Addr) (fn fc ln lc:Nat) (w:World) :
  Calls Tryz.prog 76 #[.agg (thC t fa fn fc la ln lc).toArray] w (b_l (f_x t.st t.ft) w):=by
 go_enter Tryz.func76,Tryz.ntmps76
 go_wp2
 all_goals
  go_ret
  refine a_k ?_ (by go_grown)
  try simp only [beq_iff_eq,beq_eq_false_iff_ne] at *
  rw [Bool.eq_iff_iff];simp [f_x]
  try omega
theorem b_r (w:World) (g:Nat) (t:Thr) (fa la:Option Addr) (fn fc ln lc:Nat) (h:a_p w g (thC t fa fn fc la ln lc)):(loadVar 46 ⟨g,0,none⟩).run Tryz.prog w=.ok (.agg (thC t fa fn fc la ln lc).toArray) w:=by
 have k0:=(h 0 _ rfl).1;have k1:=(h 1 _ rfl).1;have k2:=(h 2 _ rfl).1;have k3:=(h 3 _ rfl).1;have k4:=(h 4 _ rfl).1;have k5:=(h 5 _ rfl).1;have k6:=(h 6 _ rfl).1;have k7:=(h 7 _ rfl).1;have k8:=(h 8 _ rfl).1;have k9:=(h 9 _ rfl).1;have k10:=(h 10 _ rfl).1;have k11:=(h 11 _ rfl).1;have k12:=(h 12 _ rfl).1;simp [go_sem,k0,k1,k2,k3,k4,k5,k6,k7,k8,k9,k10,k11,k12]
theorem d_d (t:Thr) (fa la:Option Addr) (fn fc ln lc:Nat) (w:World) (F:ThF w fa fn fc la ln lc t) :
  Calls Tryz.prog 37 #[.agg (thC t fa fn fc la ln lc).toArray] w (b_l (a_1 t) w):=by
 obtain ⟨W,hW⟩:=nm (w.alloc (Obj.cells (thC t fa fn fc la ln lc).toArray 46));have X:=N168;have hB:=N2;have hn:fn≤9223372036854775807:=Nat.le_trans F.fcap.1 F.fcap.2.1;have hm:ln≤9223372036854775807:=Nat.le_trans F.lcap.1 F.lcap.2.1;replace F:=d_a hB F;have S1:=F.fs;have S2:=F.lf;have ⟨HX,HB,HW⟩:=hh3 X hB hW;clear hW X hB F
 go_enter Tryz.func37,Tryz.ntmps37
 go_upto_region 1 with fail
 rw [←HW.out];have k0:=(HX.out 0 _ rfl).1;have k9:=(HX.out 9 _ rfl).1
 cases h1:decide (0≤t.pc∧t.pc≤1000) with
 | false =>
  have H1:=hid h1;clear h1
  go_wp2_with fail
  refine (c_d t.pc 1000 _).mono ?_;rintro e w1 ⟨rfl,h⟩
  cases h
  rw [H1.out]
  go_wp2
  go_ret
  exact a_k (by rw [a_1,H1.out];rfl) HB.out
 | true =>
  have H1:=hid h1;clear h1
  go_wp2_with fail
  refine (c_d t.pc 1000 _).mono ?_;rintro e w1 ⟨rfl,h⟩
  cases h
  rw [H1.out]
  cases h2:c_n t.fs with
  | false =>
   have H2:=hid h2;clear h2
   go_wp2_with fail
   refine (e_K fa fn fc t.fs _ S1 hn).mono ?_;rintro e w1 ⟨rfl,hb1⟩;rw [H2.out];have HB1:=hid (a_b HB.out hb1);clear hb1
   go_wp2
   go_ret
   exact a_k (by rw [a_1,H2.out,Bool.and_false];rfl) HB1.out
  | true =>
   have H2:=hid h2;clear h2
   go_wp2_with fail
   refine (e_K fa fn fc t.fs _ S1 hn).mono ?_;rintro e w1 ⟨rfl,hb1⟩;rw [H2.out];have HB1:=hid (a_b HB.out hb1);have X1:=a_i hb1 HX.out;replace S2:=g_B hb1 S2;have HX1:=hid X1;clear hb1 k0 k9;have k0:=(X1 0 _ rfl).1;have k1:=(X1 1 _ rfl).1;have k2:=(X1 2 _ rfl).1;have k3:=(X1 3 _ rfl).1;have k4:=(X1 4 _ rfl).1;have k5:=(X1 5 _ rfl).1;have k6:=(X1 6 _ rfl).1;have k7:=(X1 7 _ rfl).1;have k8:=(X1 8 _ rfl).1;have k9:=(X1 9 _ rfl).1;have k10:=(X1 10 _ rfl).1;have k11:=(X1 11 _ rfl).1;have k12:=(X1 12 _ rfl).1;clear X1
   cases h3:f_x t.st t.ft with
   | false =>
    have H3:=hid h3;clear h3
    go_wp2_with fail
    refine (f_l t fa la fn fc ln lc _).mono ?_;rintro e w2 ⟨rfl,hb2⟩;rw [H3.out];have HB2:=hid (a_b HB1.out hb2);clear hb2
    go_wp2
    go_ret
    exact a_k (by rw [a_1,H3.out,Bool.and_false];rfl) HB2.out
   | true =>
    have H3:=hid h3;clear h3
    go_wp2_with fail
    refine (f_l t fa la fn fc ln lc _).mono ?_;rintro e w2 ⟨rfl,hb2⟩;rw [H3.out];have HB2:=hid (a_b HB1.out hb2);replace k12:=a_u hb2 k12;replace S2:=g_B hb2 S2;clear hb2
    go_wp2_with fail
    refine (i_u la ln lc t.lf _ S2 hm).mono ?_;rintro e w3 ⟨rfl,h⟩
    cases h
    obtain ⟨r,hr⟩:=mn (b_4 t.lf);have HR:=hid hr;rw [hr];clear hr
    go_wp2
    go_ret
    exact a_k (by rw [a_1,H1.out,H2.out,H3.out,HR.out];rfl) HB2.out
theorem Tryz.sizeI3:(Tryz.prog.info? 3).map (·.size)=some 1:=by kernel_rfl
theorem f_R (w:World) (b o dl dc b' o' sl sc:Nat) (cs vs us:List Value) (hn:cs.length=Nat.min sl dl) (hs:a_p w b' us) (hsrc:∀ j v,cs[j]?=some v→us[o'+j]?=some v) (hd:a_p w b vs) (hl:o+cs.length≤vs.length) (h1:∀ v∈cs,v.oneCell'=true) :
  (Builtin.copy_ #[23,23] 3 #[.slice (some ⟨b,o,none⟩) dl dc,.slice (some ⟨b',o',none⟩) sl sc]).run Tryz.prog w=.ok (goInt cs.length) (d_o w b o cs):=by
 have hc:∀ j,j < cs.length→∃ v,vs[o+j]?=some v:=fun j hj=>⟨vs[o+j],by simp [show o+j < vs.length by omega]⟩
 rw [←e_6];refine run_copy_cells (P:=Tryz.prog) w 23 23 3 3 b o dl dc ⟨b',o',none⟩ sl sc cs Tryz.underlying23 Tryz.sizeI3 hn (fun j v hj=>?_) (fun j hj=>?_) (fun j hj=>?_) h1
 ·rw [Gen.add_plain];exact (hs _ _ (hsrc j v hj)).1
 ·obtain ⟨v,hv⟩:=hc j hj;rw [(hd _ _ hv).1];rfl
 ·obtain ⟨v,hv⟩:=hc j hj;exact (hd _ _ hv).2
theorem o_v (w:World) (g:Nat) (x0 x1 x2 x3:Value) (h:a_p w g [x0,x1,x2,x3]):(loadVar 99 ⟨g,0,none⟩).run Tryz.prog w=.ok (.agg #[x0,x1,x2,x3]) w:=by
 have k0:=(h 0 _ rfl).1;have k1:=(h 1 _ rfl).1;have k2:=(h 2 _ rfl).1;have k3:=(h 3 _ rfl).1;simp [go_sem,k0,k1,k2,k3]
theorem o_w (w:World) (g:Nat) (x0 x1 x2 x3 x4 x5 x6 x7:Value) (h:a_p w g [x0,x1,x2,x3,x4,x5,x6,x7]):(loadVar 43 ⟨g,0,none⟩).run Tryz.prog w=.ok (.agg #[x0,x1,x2,x3,x4,x5,x6,x7]) w:=by
 have k0:=(h 0 _ rfl).1;have k1:=(h 1 _ rfl).1;have k2:=(h 2 _ rfl).1;have k3:=(h 3 _ rfl).1;have k4:=(h 4 _ rfl).1;have k5:=(h 5 _ rfl).1;have k6:=(h 6 _ rfl).1;have k7:=(h 7 _ rfl).1;simp [go_sem,k0,k1,k2,k3,k4,k5,k6,k7]
theorem q_z (r:Nat→Int) (w:World) :
  Calls Tryz.prog 166 #[.agg (rgC r).toArray] w fun e w'=>e=.returned (.agg #[.int .i64 (r 4),.int .i64 (r 5),.int .i64 (r 6),.int .i64 (r 7)])∧Below w.heap.size w w':=by
 obtain ⟨W,hW⟩:=nm (((w.alloc (Obj.cells (rgC r).toArray 43)).alloc (Obj.cells #[.int .i64 0,.int .i64 0,.int .i64 0,.int .i64 0] 99)).alloc (Obj.cells #[.int .i64 0,.int .i64 0,.int .i64 0,.int .i64 0] 99));have hB:=N2;have X:=N203;have R:a_p W (w.heap.size+1) [.int .i64 0,.int .i64 0,.int .i64 0,.int .i64 0]:=by rw [hW];exact a_s _ (a_e [.int .i64 0,.int .i64 0,.int .i64 0,.int .i64 0] _ (by simp))
 have K:a_p W (w.heap.size+2) [.int .i64 0,.int .i64 0,.int .i64 0,.int .i64 0]:=by rw [hW];exact a_e [.int .i64 0,.int .i64 0,.int .i64 0,.int .i64 0] _ (by simp)
 have hrun:=f_R W.drew (w.heap.size+2) 0 4 4 w.heap.size 4 4 4 [.int .i64 (r 4),.int .i64 (r 5),.int .i64 (r 6),.int .i64 (r 7)] _ _ rfl (b_J X) (fun j v hj=>by
  match j,hj with
  | 0,h=>exact h
  | 1,h=>exact h
  | 2,h=>exact h
  | 3,h=>exact h
  | j+4,h=>simp at h) (b_J K) (by simp) (by intro v hv;simp at hv;rcases hv with rfl | rfl | rfl | rfl <;> rfl)
 obtain ⟨Z,hZ⟩:=nm (d_o W.drew (w.heap.size+2) 0 [.int .i64 (r 4),.int .i64 (r 5),.int .i64 (r 6),.int .i64 (r 7)]);have K2:a_p Z (w.heap.size+2) [.int .i64 (r 4),.int .i64 (r 5),.int .i64 (r 6),.int .i64 (r 7)]:=by rw [hZ];exact a_q (b_J K) rfl
 have R2:a_p Z (w.heap.size+1) [.int .i64 0,.int .i64 0,.int .i64 0,.int .i64 0]:=by rw [hZ];exact a_j (by omega) (b_J R)
 have B2:Below w.heap.size w Z:=by rw [hZ];exact a_h (by omega) hB.drew
 rw [←hZ] at hrun;have ⟨HRUN,HW,HK2,HR2,HB2⟩:=hh5 hrun hW K2 R2 B2;clear hrun hZ hW K2 R2 B2 hB X R K
 go_enter Tryz.func166,Tryz.ntmps166
 go_upto_region 2 with fail
 rw [←HW.out]
 go_region_law (refine f_T rfl (.tmp 4) (.tmp 5) 23 23 rfl _ _ _ _ (by simp [Act.eval,Act.put]) (by simp [Act.eval,Act.put]) HRUN.out ?_)
 have k0:=(HK2.out 0 _ rfl).1;have k1:=(HK2.out 1 _ rfl).1;have k2:=(HK2.out 2 _ rfl).1;have k3:=(HK2.out 3 _ rfl).1;obtain ⟨y0,g0⟩:=HR2.out 0 _ rfl;obtain ⟨y1,g1⟩:=HR2.out 1 _ rfl;obtain ⟨y2,g2⟩:=HR2.out 2 _ rfl;obtain ⟨y3,g3⟩:=HR2.out 3 _ rfl
 go_wp2
 refine a_V ⟨w.heap.size+1,0,none⟩ rfl rfl rfl (o_v _ _ _ _ _ _ (a_q (xs:=[.int .i64 (r 4),.int .i64 (r 5),.int .i64 (r 6),.int .i64 (r 7)]) HR2.out rfl)) ?_;exact ⟨rfl,a_h (g:=w.heap.size+1) (xs:=[.int .i64 (r 4),.int .i64 (r 5),.int .i64 (r 6),.int .i64 (r 7)]) (k:=0) (by omega) HB2.out⟩
def j_B (r:Nat→Int) (k0 k1 k2 k3:Int):Nat→Int:=fun i=>if i=4 then k0 else if i=5 then k1 else if i=6 then k2 else if i=7 then k3 else r i
theorem j_C (r:Nat→Int) (x0 x1 x2 x3:Int) (w:World) :
  Calls Tryz.prog 167 #[.agg (rgC r).toArray,.agg #[.int .i64 x0,.int .i64 x1,.int .i64 x2,.int .i64 x3]] w fun e w'=>e=.returned (.agg #[.int .i64 ((j_B r x0 x1 x2 x3) 0),.int .i64 ((j_B r x0 x1 x2 x3) 1),.int .i64 ((j_B r x0 x1 x2 x3) 2),.int .i64 ((j_B r x0 x1 x2 x3) 3),.int .i64 ((j_B r x0 x1 x2 x3) 4),.int .i64 ((j_B r x0 x1 x2 x3) 5),.int .i64 ((j_B r x0 x1 x2 x3) 6),.int .i64 ((j_B r x0 x1 x2 x3) 7)])∧Below w.heap.size w w':=by
 obtain ⟨W,hW⟩:=nm (((w.alloc (Obj.cells (rgC r).toArray 43)).alloc (Obj.cells #[.int .i64 x0,.int .i64 x1,.int .i64 x2,.int .i64 x3] 99)).alloc (Obj.cells rgZ.toArray 43));have hB:=N2;have X:=N203;have K:a_p W (w.heap.size+1) [.int .i64 x0,.int .i64 x1,.int .i64 x2,.int .i64 x3]:=by rw [hW];exact a_s _ (a_e [.int .i64 x0,.int .i64 x1,.int .i64 x2,.int .i64 x3] _ (by simp))
 have R:a_p W (w.heap.size+2) rgZ:=by rw [hW];exact a_e rgZ _ (by simp)
 have hrun:=f_R W.drew w.heap.size 4 4 4 (w.heap.size+1) 0 4 4 [.int .i64 x0,.int .i64 x1,.int .i64 x2,.int .i64 x3] _ _ rfl (b_J K) (fun j v hj=>by
  match j,hj with
  | 0,h=>exact h
  | 1,h=>exact h
  | 2,h=>exact h
  | 3,h=>exact h
  | j+4,h=>simp at h) (b_J X) (by simp) (by intro v hv;simp at hv;rcases hv with rfl | rfl | rfl | rfl <;> rfl)
 obtain ⟨Z,hZ⟩:=nm (d_o W.drew w.heap.size 4 [.int .i64 x0,.int .i64 x1,.int .i64 x2,.int .i64 x3]);have X2:a_p Z w.heap.size [.int .i64 (r 0),.int .i64 (r 1),.int .i64 (r 2),.int .i64 (r 3),.int .i64 x0,.int .i64 x1,.int .i64 x2,.int .i64 x3]:=by rw [hZ];exact b_b (xs:=[.int .i64 x0,.int .i64 x1,.int .i64 x2,.int .i64 x3]) 4 (b_J X) (by simp)
 have R2:a_p Z (w.heap.size+2) rgZ:=by rw [hZ];exact a_j (by omega) (b_J R)
 have B2:Below w.heap.size w Z:=by rw [hZ];exact a_h (by omega) hB.drew
 rw [←hZ] at hrun;have ⟨HRUN,HW,HX2,HR2,HB2⟩:=hh5 hrun hW X2 R2 B2;clear hrun hZ hW X2 R2 B2 hB X R K
 go_enter Tryz.func167,Tryz.ntmps167
 go_upto_region 1 with fail
 rw [←HW.out]
 go_region_law (refine f_T rfl (.tmp 5) (.tmp 6) 23 23 rfl _ _ _ _ (by simp [Act.eval,Act.put]) (by simp [Act.eval,Act.put]) HRUN.out ?_)
 have k0:=(HX2.out 0 _ rfl).1;have k1:=(HX2.out 1 _ rfl).1;have k2:=(HX2.out 2 _ rfl).1;have k3:=(HX2.out 3 _ rfl).1;have k4:=(HX2.out 4 _ rfl).1;have k5:=(HX2.out 5 _ rfl).1;have k6:=(HX2.out 6 _ rfl).1;have k7:=(HX2.out 7 _ rfl).1;obtain ⟨y0,g0⟩:=HR2.out 0 _ rfl;obtain ⟨y1,g1⟩:=HR2.out 1 _ rfl;obtain ⟨y2,g2⟩:=HR2.out 2 _ rfl;obtain ⟨y3,g3⟩:=HR2.out 3 _ rfl;obtain ⟨y4,g4⟩:=HR2.out 4 _ rfl;obtain ⟨y5,g5⟩:=HR2.out 5 _ rfl;obtain ⟨y6,g6⟩:=HR2.out 6 _ rfl;obtain ⟨y7,g7⟩:=HR2.out 7 _ rfl
 go_wp2
 refine a_V ⟨w.heap.size+2,0,none⟩ rfl rfl rfl (o_w _ _ _ _ _ _ _ _ _ _ (a_q (xs:=[.int .i64 (r 0),.int .i64 (r 1),.int .i64 (r 2),.int .i64 (r 3),.int .i64 x0,.int .i64 x1,.int .i64 x2,.int .i64 x3]) HR2.out rfl)) ?_;exact ⟨rfl,a_h (g:=w.heap.size+2) (xs:=[.int .i64 (r 0),.int .i64 (r 1),.int .i64 (r 2),.int .i64 (r 3),.int .i64 x0,.int .i64 x1,.int .i64 x2,.int .i64 x3]) (k:=0) (by omega) HB2.out⟩
def r_4 {α:Type} (T:TypeId) (r:Rep α) (f:α→List Value) (ys:List α) (w:World) (e:Ending) (w':World):Prop:=
 ∃ a c,e=.returned (.slice a ys.length c)∧Cap a ys.length c∧w'.ownsRow w.heap.size T r.k (.slice a ys.length c) ys.length (ys.flatMap f)∧Vs r (fun b=>w.heap.size≤b) w' a ys.length ys∧Below w.heap.size w w'
theorem l_U {α:Type} {r:Rep α} {f:α→List Value} {ys:List α} {w w':World} {T:TypeId} {v:Value} {n:Nat} (hn:ys.length=n) (h:w'.ownsRow w.heap.size T r.k v n (ys.flatMap f)) (hQ:d_s r (fun b=>w.heap.size≤b) w' (ys.flatMap f) ys) (hb:Below w.heap.size w w'):r_4 T r f ys w (.returned v) w':=by
 obtain ⟨a,c,rfl,h1,h2,h3,h4⟩:=e_v h hQ (fun b h _=>h);subst hn;exact ⟨a,c,rfl,⟨h1,h2,h3⟩,h,h4,hb⟩
theorem f_G {Q:Nat→Prop} {w:World} (ys:List Fr):d_s repFr Q w (ys.flatMap d_8) ys:=e_I (k:=5) (f:=d_8) (hk:=by decide) (hf:=fun _=>rfl) ys
def p_N (z:Int):List Value:=[.int .i64 z]
theorem g_1 {Q:Nat→Prop} {w:World}:∀ (ys:List Int),d_s repInt Q w (ys.flatMap p_N) ys
 | []=>rfl
 | y::ys=>⟨[.int .i64 y],ys.flatMap p_N,rfl,rfl,g_1 ys⟩
theorem q_Q (ys:List Int):∀ u∈ys.flatMap p_N,u.oneCell'=true:=by
 intro u hu;obtain ⟨y,_,h⟩:=List.mem_flatMap.1 hu;simp [p_N] at h;subst h;rfl
theorem o_V (ys:List Fr):∀ u∈ys.flatMap d_8,u.oneCell'=true:=by
 intro u hu;obtain ⟨y,_,h⟩:=List.mem_flatMap.1 hu;simp [d_8] at h;rcases h with rfl | rfl | rfl | rfl | rfl <;> rfl
theorem q_A (ys:List Int):(ys.flatMap p_N).length=ys.length:=by
 have:=b_f (g_1 (Q:=Any) (w:=default) ys);rw [this];exact Nat.mul_one _
theorem o_s (ys:List Fr):(ys.flatMap d_8).length=ys.length*5:=b_f (f_G (Q:=Any) (w:=default) ys)
theorem l_P:∀ (ys:List Int),ys.flatMap p_N=ys.map (Value.int .i64)
 | []=>rfl
 | y::ys=>congrArg (Value.int .i64 y::·) (l_P ys)
theorem p_z {Q:Nat→Prop} {w:World} {a:Option Addr} {n:Nat} {ys:List Int} (h:Vs repInt Q w a n ys):∀ b,a=some b→∀ j u,(ys.flatMap p_N)[j]?=some u→w.cell? (b.add j)=some u:=by
 rw [l_P];exact p_y h
theorem i_c {Q:Nat→Prop} {w:World} {a:Option Addr} {n:Nat} {ys:List Fr} (h:Vs repFr Q w a n ys):∀ b,a=some b→∀ j u,(ys.flatMap d_8)[j]?=some u→w.cell? (b.add j)=some u:=
 j_Q (k:=5) (f:=d_8) (hk:=by decide) (hf:=fun _=>rfl) h
theorem Tryz.infoI3:(Tryz.prog.info? 3).map (fun i=>(i.zero,i.size,i.bytes))=some (some (.int .i64 0),1,8):=by kernel_rfl
theorem Tryz.infoF105:(Tryz.prog.info? 105).map (fun i=>(i.zero,i.size,i.bytes))=some (some (.agg #[.int .i64 0,.int .i64 0,.int .i64 0,.int .i64 0,.int .i64 0]),5,40):=by kernel_rfl
theorem f_q (a:Option Addr) (n c:Nat) (ys:List Fr) (w:World) (S:Vs repFr Any w a n ys) (hc:Cap a n c) (hn:n≤1000) :
  Calls Tryz.prog 88 #[.slice a n c] w (r_4 105 repFr d_8 ys w):=by
 obtain ⟨i0,hi,hz0,hz1,hz2⟩:=N218;have HI:=N59;have Hn:=hid S.1;have HS:=hid S;have q:=fun w=>d_M 44 105 a n c Tryz.underlying44 w
 clear hi hz0 hz1 hz2 S
 cases a with
 | none =>
  obtain rfl:c=0:=hc.2.2 rfl;obtain rfl:n=0:=by have:=hc.1;omega
  obtain rfl:ys=[]:=List.eq_nil_of_length_eq_zero Hn.out;clear hc
  go_enter Tryz.func88,Tryz.ntmps88
  go_wp2
  go_ret
  exact ⟨none,0,rfl,b_T,World.ownsRow_nil _ _ _ _,d_c,Below.refl _ _⟩
 | some p =>
  have hc1:=hc.1;have hc2:=hc.2.1;clear hc
  go_enter Tryz.func88,Tryz.ntmps88
  go_wp2_with (at_builtin;refine wpList_append_own _ rfl _ _ 44 rfl w.heap.size 105 i0 (.agg #[.int .i64 0,.int .i64 0,.int .i64 0,.int .i64 0,.int .i64 0]) 5 40 Tryz.underlying44 HI.out.1 HI.out.2.1 HI.out.2.2.1 HI.out.2.2.2 rfl (by decide) _ 0 [] rfl (World.ownsRow_made w #[] 0 (Nat.le_refl _) (by decide) (by simp)) p n c (ys.flatMap d_8) rfl ?c1 ?c2 ?c3 ?c4 ?c5 ?c6 ?_)
  case c1=>rw [o_s,Hn.out]
  case c2=>exact i_c (u_r _ HS.out) p rfl
  case c3=>exact o_V _
  case c4=>unfold maxLen;omega
  case c5=>omega
  case c6=>simp
  intro v' w1 hown' hgrow _;have hb':=((Below.refl w.heap.size w).alloc (Nat.le_refl _) (.cells #[] 105)).grown hgrow (by simp) (fun r hr=>by cases hr;simp);have ⟨HO,HB⟩:=hh2 hown' hb';clear hown' hb' hgrow
  go_wp2
  go_ret
  exact l_U (r:=repFr) (f:=d_8) Hn.out HO.out (f_G ys) HB.out
theorem f_r (a:Option Addr) (n c:Nat) (ys:List Int) (w:World) (S:Vs repInt Any w a n ys) (hc:Cap a n c) (hn:n≤1000) :
  Calls Tryz.prog 85 #[.slice a n c] w (r_4 3 repInt p_N ys w):=by
 obtain ⟨i0,hi,hz0,hz1,hz2⟩:=info_parts Tryz.infoI3;have HI:=N59;have Hn:=hid S.1;have HS:=hid S;have q:=fun w=>d_M 23 3 a n c Tryz.underlying23 w
 clear hi hz0 hz1 hz2 S
 cases a with
 | none =>
  obtain rfl:c=0:=hc.2.2 rfl;obtain rfl:n=0:=by have:=hc.1;omega
  obtain rfl:ys=[]:=List.eq_nil_of_length_eq_zero Hn.out;clear hc
  go_enter Tryz.func85,Tryz.ntmps85
  go_wp2
  go_ret
  exact ⟨none,0,rfl,b_T,World.ownsRow_nil _ _ _ _,d_c,Below.refl _ _⟩
 | some p =>
  have hc1:=hc.1;have hc2:=hc.2.1;clear hc
  go_enter Tryz.func85,Tryz.ntmps85
  go_wp2_with (at_builtin;refine wpList_append_own _ rfl _ _ 23 rfl w.heap.size 3 i0 (.int .i64 0) 1 8 Tryz.underlying23 HI.out.1 HI.out.2.1 HI.out.2.2.1 HI.out.2.2.2 rfl (by decide) _ 0 [] rfl (World.ownsRow_made w #[] 0 (Nat.le_refl _) (by decide) (by simp)) p n c (ys.flatMap p_N) rfl ?c1 ?c2 ?c3 ?c4 ?c5 ?c6 ?_)
  case c1=>rw [q_A,Hn.out,Nat.mul_one]
  case c2=>exact p_z (u_r _ HS.out) p rfl
  case c3=>exact q_Q _
  case c4=>unfold maxLen;omega
  case c5=>omega
  case c6=>simp
  intro v' w1 hown' hgrow _;have hb':=N85;have ⟨HO,HB⟩:=hh2 hown' hb';clear hown' hb' hgrow
  go_wp2
  go_ret
  exact l_U (r:=repInt) (f:=p_N) Hn.out HO.out (g_1 ys) HB.out
end Go.Proofs.YtogdpojnbgeknaaGreatDoor
