import Derived.Test.YtogdpojnbgeknaaGreatDoorT8
import Derived.Test.YtogdpojnbgeknaaGreatDoorRows
import Derived.Test.YtogdpojnbgeknaaGreatDoorT6
import Derived.Test.YtogdpojnbgeknaaGreatDoorT1
import Derived.WalkKit
import Derived.ProofKit
import Derived.Handy
import Derived.Lib.Hide
import Derived.BigQuiet
import Derived.Deep.QuietTactic
import Derived.RegionTactic
import Derived.Laws.CopyOwn
import Derived.Carry
import Derived.Test.YtogdpojnbgeknaaGreatDoorT0
set_option maxRecDepth 100000
set_option maxHeartbeats 16000000
namespace Go.Proofs.YtogdpojnbgeknaaGreatDoor
open Go.ChangeShapes Go.WideShapes Go.ChangeAt Go.RowKit
open Gen
def OpB (w:World) (cs:List Value) (w':World):Prop:=Below w.heap.size w w'∧a_p w' w.heap.size cs∧∃ xs:List Value,a_p w' (w.heap.size+1) xs∧xs.length=13
theorem b_U {w w1 w2:World} {cs:List Value} (h:OpB w cs w1) (hb:Below w1.heap.size w1 w2) (hc:0 < cs.length):OpB w cs w2:=by
 obtain ⟨h1,h2,xs,h3,h4⟩:=h;exact ⟨h1.trans (hb.mono (Nat.le_of_lt (a_P h2 hc))),a_i hb h2,xs,a_i hb h3,h4⟩
theorem c_N {w w1 U:World} {xs zs:List Value} (HU:Hid (U=d_o w1 (w.heap.size+1) 0 zs.toArray.toList)) (hx:a_p w1 (w.heap.size+1) xs) (hn:xs.length=13) (hz:zs.length=13):a_p U (w.heap.size+1) zs:=by
 rw [HU.out];exact a_q (xs:=zs) hx (by rw [hz];exact hn.symm)
theorem e_l {w w1 U:World} {cs xs zs:List Value} (HU:Hid (U=d_o w1 (w.heap.size+1) 0 zs.toArray.toList)) (h:OpB w cs w1) (hx:a_p w1 (w.heap.size+1) xs) (hn:xs.length=13) (hz:zs.length=13):OpB w cs U:=
 ⟨a_y HU (Nat.le_succ _) h.1,by rw [HU.out];exact a_j (by omega) h.2.1,zs,c_N HU hx hn hz,hz⟩
theorem d_A (w:World) (t:Thr) (self:Int) (i:In4) (fa:Option Addr) (fn fc:Nat) (la:Option Addr) (ln lc:Nat) {cs:List Value} (hcs:cs=(tkC t fa fn fc la ln lc self i)) :
  ∃ W,W=(w.alloc (Obj.cells (tkC t fa fn fc la ln lc self i).toArray 168)).alloc (Obj.cells thN.toArray 46)∧a_p W w.heap.size cs∧a_p W (w.heap.size+1) thN∧Below w.heap.size w W:=
 ⟨_,rfl,by rw [hcs];exact a_s _ (a_e _ _ rfl),a_e _ _ (by simp),by go_grown⟩
theorem d_z {t:Thr} {self:Int} {i:In4} {fa:Option Addr} {fn fc:Nat} {la:Option Addr} {ln lc:Nat} {cs:List Value} (hcs:cs=(tkC t fa fn fc la ln lc self i)):cs.toArray=(tkC t fa fn fc la ln lc self i).toArray:=by rw [hcs]
end Go.Proofs.YtogdpojnbgeknaaGreatDoor
namespace Go.Proofs.YtogdpojnbgeknaaGreatDoor
open Go.ChangeShapes Go.WideShapes Go.ChangeAt Go.RowKit
def Row (w:World) (b off:Nat) (zs:List Int):Prop:=∀ i,i < zs.length→w.cell? ⟨b,off+i,none⟩=some (.int .i64 (zs.getD i 0))
theorem l_0 {w:World} {b off:Nat} {zs:List Int} (o:Obj) (h:Row w b off zs):Row (w.alloc o) b off zs:=fun i hi=>b_a o (h i hi)
theorem u_y {w:World} {b off:Nat} {zs:List Int} (h:Row w b off zs):Row w.drew b off zs:=h
theorem p_P {w w':World} {b off:Nat} {zs:List Int} (hb:Below w.heap.size w w') (h:Row w b off zs):Row w' b off zs:=fun i hi=>a_u hb (h i hi)
def Sl (w:World) (a:Option Addr) (n:Nat) (zs:List Int):Prop:=zs.length=n∧(n=0∨∃ b o,a=some ⟨b,o,none⟩∧Row w b o zs)
theorem slA {w:World} {a:Option Addr} {n:Nat} {zs:List Int} (o:Obj) (h:Sl w a n zs):Sl (w.alloc o) a n zs:=
 ⟨h.1,h.2.imp id fun ⟨b,f,e,r⟩=>⟨b,f,e,l_0 o r⟩⟩
theorem slB {w w':World} {a:Option Addr} {n:Nat} {zs:List Int} (hb:Below w.heap.size w w') (h:Sl w a n zs):Sl w' a n zs:=
 ⟨h.1,h.2.imp id fun ⟨b,f,e,r⟩=>⟨b,f,e,p_P hb r⟩⟩
theorem slD {w:World} {a:Option Addr} {n:Nat} {zs:List Int} (h:Sl w a n zs):Sl w.drew a n zs:=h
def SlF (F:Nat) (w:World) (a:Option Addr) (n:Nat) (zs:List Int):Prop:=zs.length=n∧(n=0∨∃ b o,a=some ⟨b,o,none⟩∧F≤b∧Row w b o zs)
theorem SlF.sl {F:Nat} {w:World} {a:Option Addr} {n:Nat} {zs:List Int} (h:SlF F w a n zs):Sl w a n zs:=⟨h.1,h.2.imp id fun ⟨b,o,e,_,r⟩=>⟨b,o,e,r⟩⟩
theorem h_l (F:Nat) (w:World):SlF F w none 0 []:=⟨rfl,.inl rfl⟩
theorem g_f {F:Nat} {w:World} {a:Option Addr} {n:Nat} {zs:List Int} (h:SlF F w a n zs) (p:Addr) (hp:p.block < F) (v:Value):SlF F (w.setCell p v) a n zs:=by
 refine ⟨h.1,h.2.imp id ?_⟩;rintro ⟨b,o,rfl,hf,r⟩;refine ⟨b,o,rfl,hf,fun i hi=>?_⟩;rw [World.cell?_setCell_other]
 ·exact r i hi
 ·intro e;rw [e] at hp;simp at hp;omega
theorem j_J {F:Nat} {w w':World} {a:Option Addr} {n:Nat} {zs:List Int} (hb:Below w.heap.size w w') (h:SlF F w a n zs):SlF F w' a n zs:=
 ⟨h.1,h.2.imp id fun ⟨b,f,e,hf,r⟩=>⟨b,f,e,hf,p_P hb r⟩⟩
theorem c_V {w:World} {a:Option Addr} {n:Nat} {zs:List Int} (h:Sl w a n zs) (hn:1≤n):zs.length=n∧∃ b o,a=some ⟨b,o,none⟩∧Row w b o zs:=
 ⟨h.1,h.2.resolve_left (by omega)⟩
def SlP (Q:Nat→Prop) (w:World) (a:Option Addr) (n:Nat) (zs:List Int):Prop:=zs.length=n∧(n=0∨∃ b o,a=some ⟨b,o,none⟩∧Q b∧Row w b o zs)
theorem SlP.sl {Q:Nat→Prop} {w:World} {a:Option Addr} {n:Nat} {zs:List Int} (h:SlP Q w a n zs):Sl w a n zs:=⟨h.1,h.2.imp id fun ⟨b,o,e,_,r⟩=>⟨b,o,e,r⟩⟩
theorem r_U {w:World} {a:Option Addr} {n:Nat} {zs:List Int} (h:Sl w a n zs):SlP (fun _=>True) w a n zs:=⟨h.1,h.2.imp id fun ⟨b,o,e,r⟩=>⟨b,o,e,trivial,r⟩⟩
theorem c_K {Q:Nat→Prop} {F:Nat} {w:World} {a:Option Addr} {n:Nat} {zs:List Int} (hQ:∀ b,F≤b→Q b) (h:SlF F w a n zs):SlP Q w a n zs:=⟨h.1,h.2.imp id fun ⟨b,o,e,hf,r⟩=>⟨b,o,e,hQ b hf,r⟩⟩
theorem a_n {Q Q':Nat→Prop} {w:World} {a:Option Addr} {n:Nat} {zs:List Int} (hQ:∀ b,Q b→Q' b) (h:SlP Q w a n zs):SlP Q' w a n zs:=⟨h.1,h.2.imp id fun ⟨b,o,e,hf,r⟩=>⟨b,o,e,hQ b hf,r⟩⟩
theorem c_7 (Q:Nat→Prop) (w:World):SlP Q w none 0 []:=⟨rfl,.inl rfl⟩
theorem p_m {Q:Nat→Prop} {w:World} {a:Option Addr} {n:Nat} {zs:List Int} (hQ:∀ b,b < w.heap.size→Q b) (h:Sl w a n zs):SlP Q w a n zs:=by
 refine ⟨h.1,?_⟩
 by_cases h0:n=0
 ·exact .inl h0
 ·obtain ⟨b,o,e,r⟩:=h.2.resolve_left h0;exact .inr ⟨b,o,e,hQ b (b_c (r 0 (by have:=h.1;omega))),r⟩
theorem h_G {Q:Nat→Prop} {w w':World} {a:Option Addr} {n:Nat} {zs:List Int} (hb:Below w.heap.size w w') (h:SlP Q w a n zs):SlP Q w' a n zs:=
 ⟨h.1,h.2.imp id fun ⟨b,f,e,q,r⟩=>⟨b,f,e,q,p_P hb r⟩⟩
theorem t_g {Q:Nat→Prop} {w:World} {a:Option Addr} {n:Nat} {zs:List Int} (o:Obj) (h:SlP Q w a n zs):SlP Q (w.alloc o) a n zs:=
 ⟨h.1,h.2.imp id fun ⟨b,f,e,q,r⟩=>⟨b,f,e,q,l_0 o r⟩⟩
theorem c_w {Q:Nat→Prop} {w:World} {a:Option Addr} {n:Nat} {zs:List Int} (p:Addr) (hp:∀ b,Q b→b≠p.block) (v:Value) (h:SlP Q w a n zs):SlP Q (w.setCell p v) a n zs:=by
 refine ⟨h.1,h.2.imp id ?_⟩;rintro ⟨b,o,rfl,hf,r⟩;refine ⟨b,o,rfl,hf,fun i hi=>?_⟩;rw [World.cell?_setCell_other]
 ·exact r i hi
 ·intro e;exact hp b hf (by rw [e])
theorem g_J {a b:Bool} (h:a=b):Ending.returned (.bool a)=.returned (.bool b):=by rw [h]
theorem k_X {k:IntKind} {a b:Int} (h:a=b):Ending.returned (.int k a)=.returned (.int k b):=by rw [h]
theorem h_g {k k':IntKind} {a b c d:Int} (h:a=b) (h':c=d):Ending.returned (.tuple #[.int k a,.int k' c])=.returned (.tuple #[.int k b,.int k' d]):=by rw [h,h']
def Zr (n:Nat):Array Value:=madeCells #[.int .i64 0] n
def Ir (zs:List Int):Array Value:=(zs.map (Value.int .i64)).toArray
theorem r_z (zs:List Int) (i:Nat) (h:i < zs.length):(Ir zs)[i]?=some (.int .i64 (zs.getD i 0)):=by
 simp [Ir,List.getD,h]
theorem t_j (zs:List Int) (i:Nat) (v:Int):(Ir zs).setIfInBounds i (.int .i64 v)=Ir (zs.set i v):=by
 simp [Ir,List.map_set]
theorem u_f (n:Nat):Zr n=Ir (List.replicate n 0):=by
 unfold Zr Ir madeCells
 apply Array.ext
 ·simp
 ·intro i h1 h2;simp only [Array.getElem_map,Array.getElem_range];simp [Nat.mod_one]
theorem l_1 {w:World} {b:Nat} {zs:List Int} {t:TypeId} {fr:Nat×Nat} (h:w.heap[b]?=some (.cells (Ir zs) t fr)):Row w b 0 zs:=by
 intro i hi;simp only [World.cell?,h]
 simpa using r_z zs i hi
theorem Tryz.info3:(Tryz.prog.info? 3).map (fun i=>(i.zero,i.size,i.bytes))=some (some (.int .i64 0),1,8):=by kernel_rfl
theorem Tryz.size3:(Tryz.prog.info? 3).map (·.size)=some 1:=by kernel_rfl
theorem j_n (n:Nat) (h:n≤1000) (w:World):(Instr.makeSlice 23 (.int .i64 n) (.int .i64 n)).run Tryz.prog w=.ok (.slice (some ⟨w.heap.size,0,none⟩) n n) (w.alloc (.cells (Zr n) 3)):=by
 obtain ⟨i0,hi,hz0,hz1,hz2⟩:=N174;have:=run_make (P:=Tryz.prog) w 23 3 i0 (.int .i64 0) Tryz.underlying23 hi hz0 .i64 .i64 n n (by omega) (by omega) (by rw [hz2];omega) (by omega);rw [this];simp [hz1,Zr,Value.cells]
theorem j_e (w:World) (ty:TypeId) (g n c b o c':Nat) (zs:List Int) (hz:zs.length=n) (hg:w.heap[g]?=some (.cells (Zr n) 3 (0,0))) (R:Row w b o zs) :
  (Builtin.copy_ #[23,23] ty #[.slice (some ⟨g,0,none⟩) n c,.slice (some ⟨b,o,none⟩) n c']).run Tryz.prog w=.ok (.int .i64 n) (w.setRow g (Ir zs)):=by
 have:=run_copy_row (P:=Tryz.prog) w 23 23 ty 3 g 0 n c ⟨b,o,none⟩ n c' (Zr n) 3 (zs.map (Value.int .i64)) Tryz.underlying23 Tryz.size3 hg (by simp [hz]) (by
  intro j v hv;rw [List.getElem?_map] at hv
  cases hj:zs[j]? with
  | none=>simp [hj] at hv
  | some z =>
   simp [hj] at hv;subst hv;have h1:j < zs.length:=(List.getElem?_eq_some_iff.1 hj).1;have h2:=R j h1;have h3:zs.getD j 0=z:=by simp [List.getD,hj]
   rw [h3] at h2
   have h4:(⟨b,o,none⟩:Addr).add j=⟨b,o+j,none⟩:=by
    simp only [Addr.add];split
    ·subst_vars;rfl
    ·rfl
   rw [h4];exact h2) (by simp [Zr,size_madeCells,hz]) (by intro v hv;simp at hv;obtain ⟨z,_,rfl⟩:=hv;rfl)
 rw [this]
 have h1:(Zr n).toList.drop (0+(zs.map (Value.int .i64)).length)=[]:=by
  apply List.drop_eq_nil_of_le
  simp [Zr,size_madeCells,hz]
 rw [h1];simp [Ir,goInt,hz]
theorem c_B (w:World) (b:Nat) (x y:Value) (k0:w.cell? ⟨b,0,none⟩=some x) (k1:w.cell? ⟨b,1,none⟩=some y):(loadVar 26 ⟨b,0,none⟩).run Tryz.prog w=.ok (.agg #[x,y]) w:=by
 simp [go_sem,k0,k1]
theorem g_k (a b:Option Addr) (n c n' c':Nat) (i k:Int) (w:World) (hn:n≤160) (ha:-9223372036854775808≤i) (ha2:i≤9223372036854775807) :
  Calls Tryz.prog 125 #[.agg #[.slice a n c,.slice b n' c'],.int .i64 i,.int .i64 k] w fun e w'=>e=.returned (.bool (b_5 n i k))∧Below w.heap.size w w':=by
 by_cases h1:1≤k
 ·by_cases h2:0≤i
  ·by_cases h3:k≤n - i
   ·exact J54
   ·exact J54
  ·exact J54
 ·exact J54
def f_C (ws ts:List Int) (w:World) (e:Ending) (w':World):Prop:=
 ∃ x y z:Int,e=.returned (.tuple #[.agg #[.int .i64 x,.int .i64 y,.int .i64 z],.bool (d_g ws ts)])∧(d_g ws ts=true→x=cnt ts 0∧y=cnt ts 1∧z=cnt ts 2)∧Below w.heap.size w w'
theorem e_p {ws ts:List Int} {w w':World} {x y z:Int} {r:Bool} (h:d_g ws ts=r) (hc:r=true→x=cnt ts 0∧y=cnt ts 1∧z=cnt ts 2) (hb:Below w.heap.size w w') :
  f_C ws ts w (.returned (.tuple #[.agg #[.int .i64 x,.int .i64 y,.int .i64 z],.bool r])) w':=by
 subst h;exact ⟨x,y,z,rfl,hc,hb⟩
theorem f_8 {ws ts:List Int} {n k:Nat} (hw:ws.length=n) (hk:k < n) {t v:Int} (ht:ts.getD k 0=t) (hv:ws.getD k 0=v) (h:t < 0∨2 < t∨(t=0∧v≠0)):d_g ws ts=false:=by
 have:k_u ws ts ws.length=false:=q_s (k:=k) (by omega) (by
  simp only [okB,ht,hv,decide_eq_false_iff_not];omega)
 simp [d_g,this]
theorem l_S {ws ts:List Int} {n:Nat} (hw:ws.length=n) (ht:ts.length=n) (h0:1≤n) (h1:n≤160) (hg:f_j ws ts n):d_g ws ts=true:=by
 have:k_u ws ts ws.length=true:=goodB_iff.2 (by rw [hw];exact hg);simp [d_g,this,k_4];omega
theorem g_4 {ws ts:List Int} {k:Nat} {t v:Int} (hg:f_j ws ts k) (ht:ts.getD k 0=t) (hv:ws.getD k 0=v) (h:0≤t∧t≤2∧(t=0→v=0)):f_j ws ts (k+1):=
 n_9 hg (by simp only [okB,ht,hv,decide_eq_true_eq];exact h)
def i_k (ws ts:List Int) (k x y z:Nat):Prop:=f_j ws ts k∧x=cnt (ts.take k) 0∧y=cnt (ts.take k) 1∧z=cnt (ts.take k) 2
theorem l_Z {ws ts:List Int} {k x y z:Nat} {t v:Int} (hk:k < ts.length) (hr:i_k ws ts k x y z) (ht:ts.getD k 0=t) (hv:ws.getD k 0=v) (h:0≤t∧t≤2∧(t=0→v=0)) :
  i_k ws ts (k+1) (x+if t=0 then 1 else 0) (y+if t=1 then 1 else 0) (z+if t=2 then 1 else 0):=by
 obtain ⟨h1,h2,h3,h4⟩:=hr;refine ⟨g_4 h1 ht hv h,?_,?_,?_⟩
 ·rw [i_p 0 hk,ht,h2]
 ·rw [i_p 1 hk,ht,h3]
 ·rw [i_p 2 hk,ht,h4]
theorem n_g (b1 o1 b2 o2 n c1 c2:Nat) (ws ts:List Int) (w:World) (hw:ws.length=n) (ht:ts.length=n) (R1:Row w b1 o1 ws) (R2:Row w b2 o2 ts) (h0:1≤n) (h160:n≤160) :
  Calls Tryz.prog 108 #[.agg #[.slice (some ⟨b1,o1,none⟩) n c1,.slice (some ⟨b2,o2,none⟩) n c2]] w (f_C ws ts w):=by
 have ⟨Hw,Ht⟩:=hh2 hw ht;clear hw ht;have t0:=N111;have t1:=N157;have t2:((n:Int) != n)=false:=by simp
 go_enter Tryz.func108,Tryz.ntmps108
 go_wp2
 go_loopw [30] (fun i wr=>∃ k:Nat,k≤n∧i=.int .i64 k∧∃ x y z:Nat,x≤k∧y≤k∧z≤k∧i_k ws ts k x y z∧wr=((w.alloc (Obj.cells #[.slice (some ⟨b1,o1,none⟩) n c1,.slice (some ⟨b2,o2,none⟩) n c2] 26)).alloc (Obj.cells #[.int .i64 0,.int .i64 0,.int .i64 0] 151)).alloc (Obj.cells #[.int .i64 (x:Int),.int .i64 (y:Int),.int .i64 (z:Int)] 151)) (fun i _=>n - (intOf i).toNat)
 case atStart=>exact ⟨0,by omega,rfl,0,0,0,by omega,by omega,by omega,⟨by intro i hi;omega,rfl,rfl,rfl⟩,rfl⟩
 case round =>
  obtain ⟨k,hk,rfl,x,y,z,hx,hy,hz,hr,rfl⟩:=hrel
  by_cases hlt:k < n
  ·have g1:=R1 k (by rw [Hw.out];exact hlt);have g2:=R2 k (by rw [Ht.out];exact hlt);have HK:=Lib.hid (show k < ts.length by rw [Ht.out];exact hlt)
   generalize htv:ts.getD k 0=tv at g2
   generalize hwv:ws.getD k 0=wv at g1
   replace g1:=b_a (Obj.cells #[.int .i64 (x:Int),.int .i64 (y:Int),.int .i64 (z:Int)] 151) (b_a (Obj.cells #[.int .i64 0,.int .i64 0,.int .i64 0] 151) (b_a (Obj.cells #[.slice (some ⟨b1,o1,none⟩) n c1,.slice (some ⟨b2,o2,none⟩) n c2] 26) g1));replace g2:=b_a (Obj.cells #[.int .i64 (x:Int),.int .i64 (y:Int),.int .i64 (z:Int)] 151) (b_a (Obj.cells #[.int .i64 0,.int .i64 0,.int .i64 0] 151) (b_a (Obj.cells #[.slice (some ⟨b1,o1,none⟩) n c1,.slice (some ⟨b2,o2,none⟩) n c2] 26) g2));have ⟨Htv,Hwv⟩:=hh2 htv hwv;clear htv hwv
   by_cases q1:tv < 0
   ·go_wp2
    go_returns
    exact e_p (f_8 Hw.out hlt Htv.out Hwv.out (.inl q1)) (by simp) (by go_grown)
   ·by_cases q2:2 < tv
    ·go_wp2
     go_returns
     exact e_p (f_8 Hw.out hlt Htv.out Hwv.out (.inr (.inl q2))) (by simp) (by go_grown)
    ·by_cases q3:tv=0
     ·subst q3
      by_cases q4:wv=0
      ·subst q4;have H:=Lib.hid (l_Z HK.out hr Htv.out Hwv.out (by omega))
       go_wp2
       go_roundw
       case rel=>exact ⟨k+1,by omega,by go_num,x+1,y,z,by omega,by omega,by omega,by simpa using H.out,by simp⟩
       case measure=>simp [intOf];omega
      ·have q5:(wv != 0)=true:=by simp [q4]
       have H:=Lib.hid (f_8 Hw.out hlt Htv.out Hwv.out (.inr (.inr ⟨rfl,q4⟩)))
       go_wp2
       go_returns
       exact e_p H.out (by simp) (by go_grown)
     ·have q4:(tv==0)=false:=by simp [q3]
      have q6:tv=1∨tv=2:=by omega
      have H:=Lib.hid (l_Z HK.out hr Htv.out Hwv.out (by omega))
      rcases q6 with rfl | rfl
      ·go_wp2
       go_roundw
       case rel=>exact ⟨k+1,by omega,by go_num,x,y+1,z,by omega,by omega,by omega,by simpa using H.out,by simp⟩
       case measure=>simp [intOf];omega
      ·go_wp2
       go_roundw
       case rel=>exact ⟨k+1,by omega,by go_num,x,y,z+1,by omega,by omega,by omega,by simpa using H.out,by simp⟩
       case measure=>simp [intOf];omega
  ·obtain rfl:k=n:=by omega
   obtain ⟨H1,H2,H3,H4⟩:=hr;have E:ts.take k=ts:=List.take_of_length_le (by rw [Ht.out];omega);rw [E] at H2 H3 H4;have ⟨H5,H6,H7⟩:=hh3 H2 H3 H4;clear E H2 H3 H4
   go_wp2
   go_returns
   exact e_p (l_S Hw.out Ht.out h0 h160 H1) (fun _=>⟨by rw [H5.out],by rw [H6.out],by rw [H7.out]⟩) (by go_grown)
theorem p_u (a a':Option Addr) (n c n' c':Nat) (ws ts:List Int) (w:World) (hw:ws.length=n) (ht:ts.length=n') (h:¬ (1≤n∧n≤160∧n'=n)) :
  Calls Tryz.prog 108 #[.agg #[.slice a n c,.slice a' n' c']] w (f_C ws ts w):=by
 have hm:d_g ws ts=false:=by simp [d_g,k_4,hw,ht,h]
 have Hm:=Lib.hid hm;clear hm hw ht
 by_cases h1:n < 1
 ·have t0:decide ((n:Int) < 1)=true:=by simp;omega
  exact J70
 ·by_cases h2:160 < n
  ·have t0:=N111;have t1:decide (160 < (n:Int))=true:=by simp;omega
   exact J70
  ·have t0:=N111;have t1:=N157;have t2:((n':Int) != n)=true:=by simp;omega
   exact J70
theorem p_t (a a':Option Addr) (n c n' c':Nat) (ws ts:List Int) (w:World) (S1:Sl w a n ws) (S2:Sl w a' n' ts) :
  Calls Tryz.prog 108 #[.agg #[.slice a n c,.slice a' n' c']] w (f_C ws ts w):=by
 by_cases h:1≤n∧n≤160∧n'=n
 ·obtain ⟨h0,h1,rfl⟩:=h;obtain ⟨hw,b1,o1,rfl,R1⟩:=c_V S1 h0;obtain ⟨ht,b2,o2,rfl,R2⟩:=c_V S2 h0;exact n_g b1 o1 b2 o2 n' c c' ws ts w hw ht R1 R2 h0 h1
 ·exact p_u a a' n c n' c' ws ts w S1.1 S2.1 h
theorem c_k (a a':Option Addr) (n c n' c':Nat) (ws ts:List Int) (w:World) (S1:Sl w a n ws) (S2:Sl w a' n' ts) :
  Calls Tryz.prog 66 #[.agg #[.slice a n c,.slice a' n' c']] w fun e w'=>e=.returned (.bool (d_g ws ts))∧Below w.heap.size w w':=by
 go_enter Tryz.func66,Tryz.ntmps66
 go_wp2_with fail
 refine (p_t a a' n c n' c' ws ts _ (slA _ S1) (slA _ S2)).mono ?_;rintro e w1 ⟨x,y,z,rfl,-,hb⟩;have hb1:=N11
 go_wp2
 go_ret
 exact ⟨rfl,hb1.alloc hb1.size _⟩
theorem f_m (t:Int) (w:World) (h0:0≤t) (h2:t≤2) :
  Calls Tryz.prog 126 #[.int .i64 t] w fun e w'=>e=.returned (.int .i64 (r_k t))∧Below w.heap.size w w':=by
 have h:t=0∨t=1∨t=2:=by omega
 rcases h with rfl | rfl | rfl
 all_goals
  go_enter Tryz.func126,Tryz.ntmps126
  go_wp2
  go_ret
  exact ⟨rfl,by go_grown⟩
theorem h_u (t:Int) (w:World) (h0:0≤t) (h2:t≤2) :
  Calls Tryz.prog 164 #[.int .i64 t] w fun e w'=>e=.returned (.int .i64 (r_h t))∧Below w.heap.size w w':=by
 have h:t=0∨t=1∨t=2:=by omega
 rcases h with rfl | rfl | rfl
 all_goals
  go_enter Tryz.func164,Tryz.ntmps164
  go_wp2
  go_ret
  exact ⟨rfl,by go_grown⟩
theorem f_a (a a':Option Addr) (n c n' c':Nat) (ws ts:List Int) (i:Int) (w:World) (S1:Sl w a n ws) (S2:Sl w a' n' ts) (hi:(Lit.int .i64 i).wf=true) :
  Calls Tryz.prog 95 #[.agg #[.slice a n c,.slice a' n' c'],.int .i64 i] w fun e w'=>e=.returned (.int .i64 (a_I ws ts i))∧Below w.heap.size w w':=by
 have hb0:=N79;have HB:=Lib.hid hb0;clear hb0
 cases hm:d_g ws ts with
 | false =>
  have Hm:=Lib.hid hm;clear hm
  go_enter Tryz.func95,Tryz.ntmps95
  go_wp2_with fail
  refine (c_k a a' n c n' c' ws ts _ (slA _ S1) (slA _ S2)).mono ?_;rintro e w1 ⟨rfl,hb⟩;have hb1:=N11;rw [Hm.out]
  go_wp2
  go_ret
  exact ⟨k_X (by simp [a_I,Hm.out]),hb1⟩
 | true =>
  have Hm:=Lib.hid hm;obtain ⟨z0,z1,z2⟩:=c_s hm;have hn:=S1.1;have hn':=S2.1;obtain rfl:n'=n:=by omega
  obtain ⟨-,b1,o1,rfl,R1⟩:=c_V S1 (by omega);obtain ⟨-,b2,o2,rfl,R2⟩:=c_V S2 (by omega);have ⟨Hn,Hn'⟩:=hh2 hn hn';have z3:1≤n':=by omega
  have z4:n'≤160:=by omega
  clear hm z0 z1 z2 hn hn'
  go_enter Tryz.func95,Tryz.ntmps95
  go_wp2_with fail
  refine (c_k _ _ n' c n' c' ws ts _ (slA _ S1) (slA _ S2)).mono ?_;rintro e w1 ⟨rfl,hb⟩;have hb1:=N11;obtain ⟨hc,hf⟩:=g_x hb;have hs1:w.heap.size < w1.heap.size:=by have:=hb.size;simp at this;omega
  rw [Hm.out]
  go_wp2_with fail
  refine (g_k _ _ n' c n' c' i 1 _ z4 HB.out.1 HB.out.2).mono ?_;rintro e w2 ⟨rfl,hb'⟩;have hb2:=N167
  cases hin:b_5 n' i 1 with
  | false =>
   have HE:=Lib.hid (show (3:Int)=a_I ws ts i by
    have:¬ (0≤i∧i < ws.length):=by rw [Hn.out];simp [b_5] at hin;omega
    rw [a_I,if_pos Hm.out,if_neg this])
   clear hin
   go_wp2
   go_ret
   exact ⟨k_X HE.out,hb2⟩
  | true =>
   have hi2:0≤i∧i < n':=by simp [b_5] at hin;omega
   obtain ⟨hi0,hi1⟩:=hi2;clear hin;obtain ⟨k,rfl⟩:=Int.eq_ofNat_of_zero_le hi0;have hk:k < n':=by omega
   have HE:=Lib.hid (show r_k (ts.getD k 0)=a_I ws ts (k:Int) by
    rw [a_I,if_pos Hm.out,if_pos ⟨by omega,by rw [Hn.out];omega⟩];simp)
   have ht:=g_G Hm.out k (by rw [Hn.out];exact hk);have g2:=p_P hb2 R2 k (by rw [Hn'.out];exact hk)
   generalize ts.getD k 0=tv at HE ht g2
   obtain ⟨ht0,ht2⟩:=ht;obtain ⟨hc',hf'⟩:=g_x hb'
   go_wp2_with fail
   refine (f_m _ _ ht0 ht2).mono ?_;rintro e w3 ⟨rfl,hb''⟩;have hb3:Below w.heap.size w w3:=hb2.trans (hb''.mono hb2.size)
   go_wp2
   go_ret
   exact ⟨k_X HE.out,hb3⟩
theorem g_D (a a':Option Addr) (n c n' c':Nat) (ws ts:List Int) (i:Int) (w:World) (S1:Sl w a n ws) (S2:Sl w a' n' ts) (hi:(Lit.int .i64 i).wf=true) :
  Calls Tryz.prog 112 #[.agg #[.slice a n c,.slice a' n' c'],.int .i64 i] w fun e w'=>e=.returned (.tuple #[.int .i64 (b_K ws ts i),.int .i64 (a_I ws ts i)])∧Below w.heap.size w w':=by
 by_cases he:a_I ws ts i=0
 ·obtain ⟨hm,h0,h1,h2⟩:=d_V he;obtain ⟨z0,z1,z2⟩:=c_s hm;have hn:=S1.1;have hn':=S2.1;obtain rfl:n'=n:=by omega
  obtain ⟨-,b1,o1,rfl,R1⟩:=c_V S1 (by omega);have Hn:=Lib.hid hn;have z3:1≤n':=by omega
  have hlt:i < n':=by omega
  have ⟨HE,HW⟩:=hh2 he hi;clear hm z0 z1 z2 hn hn' h1 h2 he hi;obtain ⟨k,rfl⟩:=N120;have hk:k < n':=by omega
  have HV:=Lib.hid (show ws.getD k 0=b_K ws ts (k:Int) by rw [b_K,if_pos HE.out];simp)
  go_enter Tryz.func112,Tryz.ntmps112
  go_wp2_with fail
  refine (f_a _ _ n' c n' c' ws ts _ _ (slA _ S1) (slA _ S2) HW.out).mono ?_;rintro e w1 ⟨rfl,hb⟩;have hb1:=N11;obtain ⟨hc,hf⟩:=g_x hb;have g1:=p_P hb1 R1 k (by rw [Hn.out];exact hk)
  generalize ws.getD k 0=wv at HV g1
  rw [HE.out]
  go_wp2
  go_ret2
  exact ⟨h_g HV.out HE.out.symm,hb1⟩
 ·have HE:=N194;have HV:=Lib.hid (show b_K ws ts i=0 by rw [b_K,if_neg he]);have HW:=Lib.hid hi;clear he hi
  go_enter Tryz.func112,Tryz.ntmps112
  go_wp2_with fail
  refine (f_a _ _ n c n' c' ws ts _ _ (slA _ S1) (slA _ S2) HW.out).mono ?_;rintro e w1 ⟨rfl,hb⟩;have hb1:=N11;have HE':=HE.out;obtain ⟨ev,hev⟩:=mn (a_I ws ts i);have HX:=Lib.hid hev;rw [hev] at HE' ⊢;clear hev
  go_wp2
  go_ret2
  exact ⟨h_g HV.out.symm HX.out.symm,hb1⟩
def i_1 (ws ts:List Int) (x:Int) (w:World) (e:Ending) (w':World):Prop:=
 ∃ a n c a' n' c',e=.returned (.tuple #[.agg #[.slice a n c,.slice a' n' c'],.int .i64 x])∧SlF w.heap.size w' a n ws∧SlF w.heap.size w' a' n' ts∧Below w.heap.size w w'
theorem d_9 {x:Int} {w w':World} (hb:Below w.heap.size w w'):i_1 [] [] x w (.returned (.tuple #[.agg #[.slice none 0 0,.slice none 0 0],.int .i64 x])) w':=
 ⟨_,_,_,_,_,_,rfl,h_l _ _,h_l _ _,hb⟩
theorem g_7 {x:Int} {w w':World} {p q n m c c':Nat} {ws ts:List Int} (hw:ws.length=n) (ht:ts.length=m) {t t':TypeId} {fr fr':Nat×Nat} (hp:w.heap.size≤p) (hq:w.heap.size≤q) (h1:w'.heap[p]?=some (.cells (Ir ws) t fr)) (h2:w'.heap[q]?=some (.cells (Ir ts) t' fr')) (hb:Below w.heap.size w w') :
  i_1 ws ts x w (.returned (.tuple #[.agg #[.slice (some ⟨p,0,none⟩) n c,.slice (some ⟨q,0,none⟩) m c'],.int .i64 x])) w':=
 ⟨_,_,_,_,_,_,rfl,⟨hw,.inr ⟨_,_,rfl,hp,l_1 h1⟩⟩,⟨ht,.inr ⟨_,_,rfl,hq,l_1 h2⟩⟩,hb⟩
def p_R (n:Nat) (ws ts:List Int) (w:World) (e:Ending) (w':World):Prop:=
 ∃ p q:Nat,e=.returned (.agg #[.slice (some ⟨p,0,none⟩) n n,.slice (some ⟨q,0,none⟩) n n])∧p≠q∧w.heap.size≤p∧w.heap.size≤q∧w'.heap[p]?=some (.cells (Ir ws) 3)∧w'.heap[q]?=some (.cells (Ir ts) 3)∧Below w.heap.size w w'
theorem g_Y (b1 o1 b2 o2 n c1 c2:Nat) (ws ts:List Int) (w:World) (hw:ws.length=n) (ht:ts.length=n) (R1:Row w b1 o1 ws) (R2:Row w b2 o2 ts) (h160:n≤160) :
  Calls Tryz.prog 96 #[.agg #[.slice (some ⟨b1,o1,none⟩) n c1,.slice (some ⟨b2,o2,none⟩) n c2]] w (p_R n ws ts w):=by
 have hmk:=j_n n (by omega);have ⟨Hw,Ht⟩:=hh2 hw ht;clear hw ht
 go_enter Tryz.func96,Tryz.ntmps96
 go_wp2
 go_region
 all_goals clear hmk
 all_goals
  go_wp2_with fail
  rw [j_e _ _ _ _ _ _ _ _ ws Hw.out (by rw [f_H];first | (rw [a_4];case hg=>(simp;done)) | ((rw [b_q];case hg=>(simp;done));(rw [a_4];case hg=>(simp;done))) | ((rw [b_q];case hg=>(simp;done));(rw [b_q];case hg=>(simp;done));(rw [a_4];case hg=>(simp;done)))) (u_y (l_0 _ (l_0 _ (l_0 _ (l_0 _ (l_0 _ R1))))))];rw [h_k];first | (rw [d_H];case hg=>(simp;done)) | ((rw [d_I];case hg=>(simp;done));(rw [d_H];case hg=>(simp;done))) | ((rw [d_I];case hg=>(simp;done));(rw [d_I];case hg=>(simp;done));(rw [d_H];case hg=>(simp;done)))
  go_wp2_with fail
  rw [j_e _ _ _ _ _ _ _ _ ts Ht.out (by rw [f_H];first | (rw [a_4];case hg=>(simp;done)) | ((rw [b_q];case hg=>(simp;done));(rw [a_4];case hg=>(simp;done))) | ((rw [b_q];case hg=>(simp;done));(rw [b_q];case hg=>(simp;done));(rw [a_4];case hg=>(simp;done)))) (u_y (l_0 _ (l_0 _ (l_0 _ (l_0 _ (l_0 _ R2))))))];rw [h_k];first | (rw [d_H];case hg=>(simp;done)) | ((rw [d_I];case hg=>(simp;done));(rw [d_H];case hg=>(simp;done))) | ((rw [d_I];case hg=>(simp;done));(rw [d_I];case hg=>(simp;done));(rw [d_H];case hg=>(simp;done)))
  go_wp2_with fail
  go_returns
  exact ⟨_,_,rfl,by omega,by omega,by omega,(by rw [f_H];first | (rw [a_4];case hg=>(simp;done)) | ((rw [b_q];case hg=>(simp;done));(rw [a_4];case hg=>(simp;done))) | ((rw [b_q];case hg=>(simp;done));(rw [b_q];case hg=>(simp;done));(rw [a_4];case hg=>(simp;done)))),(by rw [f_H];first | (rw [a_4];case hg=>(simp;done)) | ((rw [b_q];case hg=>(simp;done));(rw [a_4];case hg=>(simp;done))) | ((rw [b_q];case hg=>(simp;done));(rw [b_q];case hg=>(simp;done));(rw [a_4];case hg=>(simp;done)))),by go_grown⟩
theorem l_B {w:World} {b k:Nat} {zs:List Int} {t:TypeId} {fr:Nat×Nat} (h:w.heap[b]?=some (.cells (Ir zs) t fr)) (hk:k < zs.length):w.cell? ⟨b,k,none⟩=some (.int .i64 (zs.getD k 0)):=by
 simp only [World.cell?,h]
 simpa using r_z zs k hk
theorem p_j {w:World} {b k:Nat} {zs:List Int} {t:TypeId} {fr:Nat×Nat} {v:Int} (h:w.heap[b]?=some (.cells (Ir zs) t fr)):(w.setCell ⟨b,k,none⟩ (.int .i64 v)).heap[b]?=some (.cells (Ir (zs.set k v)) t fr):=by
 have hb:b < w.heap.size:=(Array.getElem?_eq_some_iff.1 h).1;simp only [World.setCell,Array.getElem?_modify,↓reduceIte,h,Option.map_some];simp [t_j]
theorem f_5 {w:World} {b:Nat} {o:Obj} (h:w.heap[b]?=some o):b < w.heap.size:=(Array.getElem?_eq_some_iff.1 h).1
theorem n_E (a a':Option Addr) (n c n' c':Nat) (ws ts:List Int) (i v:Int) (w:World) (S1:Sl w a n ws) (S2:Sl w a' n' ts) (hi:(Lit.int .i64 i).wf=true) :
  Calls Tryz.prog 50 #[.agg #[.slice a n c,.slice a' n' c'],.int .i64 i,.int .i64 v] w (i_1 (c_q ws ts i v) (c_p ws ts i) (a_I ws ts i) w):=by
 by_cases he:a_I ws ts i=0
 ·obtain ⟨hm,h0,h1,h2⟩:=d_V he;obtain ⟨z0,z1,z2⟩:=c_s hm;have hn:=S1.1;have hn':=S2.1;obtain rfl:n'=n:=by omega
  obtain ⟨-,b1,o1,rfl,R1⟩:=c_V S1 (by omega);obtain ⟨-,b2,o2,rfl,R2⟩:=c_V S2 (by omega);have ⟨Hn,Hn'⟩:=hh2 hn hn';have z3:1≤n':=by omega
  have z4:n'≤160:=by omega
  have hlt:i < n':=by omega
  have ⟨HE,HW⟩:=hh2 he hi;have H1:=Lib.hid (show c_q ws ts i v=ws.set i.toNat v by rw [c_q,if_pos he]);have H2:=Lib.hid (show c_p ws ts i=ts by rw [c_p,if_pos he]);clear hm z0 z1 z2 hn hn' h1 h2 he hi;rw [H1.out,H2.out,HE.out];clear H1 H2;obtain ⟨k,rfl⟩:=N120;have hk:k < n':=by omega
  rw [Int.toNat_natCast]
  go_enter Tryz.func50,Tryz.ntmps50
  go_wp2_with fail
  refine (f_a _ _ n' c n' c' ws ts _ _ (slA _ (slA _ S1)) (slA _ (slA _ S2)) HW.out).mono ?_;rintro e w1 ⟨rfl,hb⟩;have hb1:=N11;obtain ⟨hc,hf⟩:=g_x hb;have hs1:=N82;rw [HE.out]
  go_wp2_with fail
  refine (g_Y b1 o1 b2 o2 n' c c' ws ts _ Hn.out Hn'.out (p_P hb1 R1) (p_P hb1 R2) z4).mono ?_;rintro e w2 ⟨p,q,rfl,hpq,hp,hq,hhp,hhq,hb'⟩;have hb2:Below w.heap.size w w2:=hb1.trans (hb'.mono hb1.size);obtain ⟨hc',hf'⟩:=g_x hb';have hs2:=N182;have hp2:=f_5 hhp;have hq2:=f_5 hhq;have ⟨Hp,Hq⟩:=hh2 hhp hhq;have g1:(w2.alloc (.cells #[.slice (some ⟨p,0,none⟩) n' n',.slice (some ⟨q,0,none⟩) n' n'] 26)).cell? ⟨p,k,none⟩=some (.int .i64 (ws.getD k 0)):=b_a _ (l_B hhp (by rw [Hn.out];exact hk));have g2:(w2.alloc (.cells #[.slice (some ⟨p,0,none⟩) n' n',.slice (some ⟨q,0,none⟩) n' n'] 26)).frozen? ⟨p,k,none⟩=false:=b_C (by rw [b_q _ _ _ hp2];exact hhp)
  generalize ws.getD k 0=wv at g1
  clear hhp hhq;have g3:w2.cell? ⟨w.heap.size+1,0,none⟩=some (.slice none 0 0):=by rw [hc' _ _ (by omega),hc _ _ (by simp)];simp
  have g4:w2.cell? ⟨w.heap.size+1,1,none⟩=some (.slice none 0 0):=by rw [hc' _ _ (by omega),hc _ _ (by simp)];simp
  go_wp2_with fail
  refine a_l ⟨w.heap.size+1,0,none⟩ rfl rfl rfl (c_B _ _ _ _ (b_a _ (by go_cell_look)) (b_a _ (by go_cell_look))) ?_;refine g_7 (t:=3) (t':=3) (fr:=(0,0)) (fr':=(0,0)) (by rw [List.length_set,Hn.out]) Hn'.out (by omega) (by omega) ?_ ?_ (by go_grown)
  ·rw [b_q _ _ _ (by simp;omega),Below.heap_setCell _ _ _ _ (by simp;omega),Below.heap_setCell _ _ _ _ (by simp;omega)];exact p_j Hp.out
  ·rw [b_q _ _ _ (by simp;omega),Below.heap_setCell _ _ _ _ (by simp;omega),Below.heap_setCell _ _ _ _ (by simp;omega),Below.heap_setCell _ _ _ _ (by simp;omega)];exact Hq.out
 ·have HE:=N194;have H1:=Lib.hid (show c_q ws ts i v=[] by rw [c_q,if_neg he]);have H2:=Lib.hid (show c_p ws ts i=[] by rw [c_p,if_neg he]);have HW:=Lib.hid hi;clear he hi;rw [H1.out,H2.out];obtain ⟨ev,hev⟩:=mn (a_I ws ts i);have HX:=Lib.hid hev;have HE':=HE.out;rw [hev] at HE' ⊢;clear hev HE
  go_enter Tryz.func50,Tryz.ntmps50
  go_wp2_with fail
  refine (f_a _ _ n c n' c' ws ts _ _ (slA _ (slA _ S1)) (slA _ (slA _ S2)) HW.out).mono ?_;rintro e w1 ⟨rfl,hb⟩;have hb1:=N11;obtain ⟨hc,hf⟩:=g_x hb;have hs1:=N82;have g3:=N185;have g4:=N186;rw [HX.out];exact J57
end Go.Proofs.YtogdpojnbgeknaaGreatDoor
