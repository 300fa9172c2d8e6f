import Derived.Test.YtolabfafgbmdbaaGreatDoorR8
import Derived.Test.YtolabfafgbmdbaaGreatDoorR0
import Derived.Deep.SlicePairs
set_option maxRecDepth 100000
set_option maxHeartbeats 16000000
namespace Go.Proofs.YtolabfafgbmdbaaGreatDoor
open Go.ChangeShapes Go.WideShapes Go.ChangeAt Go.RowKit
theorem e_8 (a b:Option Addr) (n c n' c':Nat) (i k:Int) (w:World) (hn:n≤160) (ha:-9223372036854775808≤i) (ha2:i≤9223372036854775807) :
  Calls Tryz.prog 125 #[.agg #[.slice a n c,.slice b n' c'],.int .i64 i,.int .i64 k] w fun e w'=>e=.returned (.bool (b_U n i k))∧Below w.heap.size w w':=by
 by_cases h1:1≤k
 ·by_cases h2:0≤i
  ·by_cases h3:k≤n - i
   ·exact J44
   ·exact J44
  ·exact J44
 ·exact J44
def e_k (ws ts:List Int) (w:World) (e:Ending) (w':World):Prop:=
 ∃ x y z:Int,e=.returned (.tuple #[.agg #[.int .i64 x,.int .i64 y,.int .i64 z],.bool (c_E ws ts)])∧(c_E ws ts=true→x=cnt ts 0∧y=cnt ts 1∧z=cnt ts 2)∧Below w.heap.size w w'
theorem d_o {ws ts:List Int} {w w':World} {x y z:Int} {r:Bool} (h:c_E ws ts=r) (hc:r=true→x=cnt ts 0∧y=cnt ts 1∧z=cnt ts 2) (hb:Below w.heap.size w w') :
  e_k ws ts w (.returned (.tuple #[.agg #[.int .i64 x,.int .i64 y,.int .i64 z],.bool r])) w':=by
 subst h;exact ⟨x,y,z,rfl,hc,hb⟩
theorem e_Z {ws ts:List Int} {n k:Nat} (hw:ws.length=n) (hk:k < n) {t v:Int} (ht:ts.getD k 0=t) (hv:ws.getD k 0=v) (h:t < 0∨2 < t∨(t=0∧v≠0)):c_E ws ts=false:=by
 have:i_N ws ts ws.length=false:=n_K (k:=k) (by omega) (by
  simp only [okB,ht,hv,decide_eq_false_iff_not];omega)
 simp [c_E,this]
theorem j_V {ws ts:List Int} {n:Nat} (hw:ws.length=n) (ht:ts.length=n) (h0:1≤n) (h1:n≤160) (hg:d_X ws ts n):c_E ws ts=true:=by
 have:i_N ws ts ws.length=true:=goodB_iff.2 (by rw [hw];exact hg);simp [c_E,this,m_L];omega
theorem f_J {ws ts:List Int} {k:Nat} {t v:Int} (hg:d_X ws ts k) (ht:ts.getD k 0=t) (hv:ws.getD k 0=v) (h:0≤t∧t≤2∧(t=0→v=0)):d_X ws ts (k+1):=
 l_I hg (by simp only [okB,ht,hv,decide_eq_true_eq];exact h)
def g_S (ws ts:List Int) (k x y z:Nat):Prop:=d_X ws ts k∧x=cnt (ts.take k) 0∧y=cnt (ts.take k) 1∧z=cnt (ts.take k) 2
theorem j_0 {ws ts:List Int} {k x y z:Nat} {t v:Int} (hk:k < ts.length) (hr:g_S ws ts k x y z) (ht:ts.getD k 0=t) (hv:ws.getD k 0=v) (h:0≤t∧t≤2∧(t=0→v=0)) :
  g_S ws ts (k+1) (x+if t=0 then 1 else 0) (y+if t=1 then 1 else 0) (z+if t=2 then 1 else 0):=by
 obtain ⟨h1,h2,h3,h4⟩:=hr;refine ⟨f_J h1 ht hv h,?_,?_,?_⟩
 ·rw [g_Y 0 hk,ht,h2]
 ·rw [g_Y 1 hk,ht,h3]
 ·rw [g_Y 2 hk,ht,h4]
theorem k_Y (b1 o1 b2 o2 n c1 c2:Nat) (ws ts:List Int) (w:World) (hw:ws.length=n) (ht:ts.length=n) (R1:Row w b1 o1 ws) (R2:Row w b2 o2 ts) (h0:1≤n) (h160:n≤160) :
  Calls Tryz.prog 108 #[.agg #[.slice (some ⟨b1,o1,none⟩) n c1,.slice (some ⟨b2,o2,none⟩) n c2]] w (e_k ws ts w):=by
 have ⟨Hw,Ht⟩:=hh2 hw ht;clear hw ht;have t0:=N45;have t1:=N63;have t2:((n:Int) != n)=false:=by simp
 go_enter Tryz.func108,Tryz.ntmps108
 go_wp2
 go_loopw [30] (fun i wr=>∃ k:Nat,k≤n∧i=.int .i64 k∧∃ x y z:Nat,x≤k∧y≤k∧z≤k∧g_S ws ts k x y z∧wr=((w.alloc (Obj.cells #[.slice (some ⟨b1,o1,none⟩) n c1,.slice (some ⟨b2,o2,none⟩) n c2] 26)).alloc (Obj.cells #[.int .i64 0,.int .i64 0,.int .i64 0] 151)).alloc (Obj.cells #[.int .i64 (x:Int),.int .i64 (y:Int),.int .i64 (z:Int)] 151)) (fun i _=>n - (intOf i).toNat)
 case atStart=>exact ⟨0,by omega,rfl,0,0,0,by omega,by omega,by omega,⟨by intro i hi;omega,rfl,rfl,rfl⟩,rfl⟩
 case round =>
  obtain ⟨k,hk,rfl,x,y,z,hx,hy,hz,hr,rfl⟩:=hrel
  by_cases hlt:k < n
  ·have g1:=R1 k (by rw [Hw.out];exact hlt);have g2:=R2 k (by rw [Ht.out];exact hlt);have HK:=Lib.hid (show k < ts.length by rw [Ht.out];exact hlt)
   generalize htv:ts.getD k 0=tv at g2
   generalize hwv:ws.getD k 0=wv at g1
   replace g1:=a_J (Obj.cells #[.int .i64 (x:Int),.int .i64 (y:Int),.int .i64 (z:Int)] 151) (a_J (Obj.cells #[.int .i64 0,.int .i64 0,.int .i64 0] 151) (a_J (Obj.cells #[.slice (some ⟨b1,o1,none⟩) n c1,.slice (some ⟨b2,o2,none⟩) n c2] 26) g1));replace g2:=a_J (Obj.cells #[.int .i64 (x:Int),.int .i64 (y:Int),.int .i64 (z:Int)] 151) (a_J (Obj.cells #[.int .i64 0,.int .i64 0,.int .i64 0] 151) (a_J (Obj.cells #[.slice (some ⟨b1,o1,none⟩) n c1,.slice (some ⟨b2,o2,none⟩) n c2] 26) g2));have ⟨Htv,Hwv⟩:=hh2 htv hwv;clear htv hwv
   by_cases q1:tv < 0
   ·go_wp2
    go_returns
    exact d_o (e_Z Hw.out hlt Htv.out Hwv.out (.inl q1)) (by simp) (by go_grown)
   ·by_cases q2:2 < tv
    ·go_wp2
     go_returns
     exact d_o (e_Z Hw.out hlt Htv.out Hwv.out (.inr (.inl q2))) (by simp) (by go_grown)
    ·by_cases q3:tv=0
     ·subst q3
      by_cases q4:wv=0
      ·subst q4;have H:=Lib.hid (j_0 HK.out hr Htv.out Hwv.out (by omega))
       go_wp2
       go_roundw
       case rel=>exact ⟨k+1,by omega,by go_num,x+1,y,z,by omega,by omega,by omega,by simpa using H.out,by simp⟩
       case measure=>simp [intOf];omega
      ·have q5:(wv != 0)=true:=by simp [q4]
       have H:=Lib.hid (e_Z Hw.out hlt Htv.out Hwv.out (.inr (.inr ⟨rfl,q4⟩)))
       go_wp2
       go_returns
       exact d_o H.out (by simp) (by go_grown)
     ·have q4:(tv==0)=false:=by simp [q3]
      have q6:tv=1∨tv=2:=by omega
      have H:=Lib.hid (j_0 HK.out hr Htv.out Hwv.out (by omega))
      rcases q6 with rfl | rfl
      ·go_wp2
       go_roundw
       case rel=>exact ⟨k+1,by omega,by go_num,x,y+1,z,by omega,by omega,by omega,by simpa using H.out,by simp⟩
       case measure=>simp [intOf];omega
      ·go_wp2
       go_roundw
       case rel=>exact ⟨k+1,by omega,by go_num,x,y,z+1,by omega,by omega,by omega,by simpa using H.out,by simp⟩
       case measure=>simp [intOf];omega
  ·obtain rfl:k=n:=by omega
   obtain ⟨H1,H2,H3,H4⟩:=hr;have E:ts.take k=ts:=List.take_of_length_le (by rw [Ht.out];omega);rw [E] at H2 H3 H4;have ⟨H5,H6,H7⟩:=hh3 H2 H3 H4;clear E H2 H3 H4
   go_wp2
   go_returns
   exact d_o (j_V Hw.out Ht.out h0 h160 H1) (fun _=>⟨by rw [H5.out],by rw [H6.out],by rw [H7.out]⟩) (by go_grown)
theorem m_R (a a':Option Addr) (n c n' c':Nat) (ws ts:List Int) (w:World) (hw:ws.length=n) (ht:ts.length=n') (h:¬ (1≤n∧n≤160∧n'=n)) :
  Calls Tryz.prog 108 #[.agg #[.slice a n c,.slice a' n' c']] w (e_k ws ts w):=by
 have hm:c_E ws ts=false:=by simp [c_E,m_L,hw,ht,h]
 have Hm:=Lib.hid hm;clear hm hw ht
 by_cases h1:n < 1
 ·have t0:decide ((n:Int) < 1)=true:=by simp;omega
  exact J57
 ·by_cases h2:160 < n
  ·have t0:=N45;have t1:decide (160 < (n:Int))=true:=by simp;omega
   exact J57
  ·have t0:=N45;have t1:=N63;have t2:((n':Int) != n)=true:=by simp;omega
   exact J57
theorem m_Q (a a':Option Addr) (n c n' c':Nat) (ws ts:List Int) (w:World) (S1:Sl w a n ws) (S2:Sl w a' n' ts) :
  Calls Tryz.prog 108 #[.agg #[.slice a n c,.slice a' n' c']] w (e_k ws ts w):=by
 by_cases h:1≤n∧n≤160∧n'=n
 ·obtain ⟨h0,h1,rfl⟩:=h;obtain ⟨hw,b1,o1,rfl,R1⟩:=c_I S1 h0;obtain ⟨ht,b2,o2,rfl,R2⟩:=c_I S2 h0;exact k_Y b1 o1 b2 o2 n' c c' ws ts w hw ht R1 R2 h0 h1
 ·exact m_R a a' n c n' c' ws ts w S1.1 S2.1 h
theorem b_z (a a':Option Addr) (n c n' c':Nat) (ws ts:List Int) (w:World) (S1:Sl w a n ws) (S2:Sl w a' n' ts) :
  Calls Tryz.prog 66 #[.agg #[.slice a n c,.slice a' n' c']] w fun e w'=>e=.returned (.bool (c_E ws ts))∧Below w.heap.size w w':=by
 go_enter Tryz.func66,Tryz.ntmps66
 go_wp2_with fail
 refine (m_Q a a' n c n' c' ws ts _ (slA _ S1) (slA _ S2)).mono ?_;rintro e w1 ⟨x,y,z,rfl,-,hb⟩;have hb1:=N4
 go_wp2
 go_ret
 exact ⟨rfl,hb1.alloc hb1.size _⟩
theorem d_2 (t:Int) (w:World) (h0:0≤t) (h2:t≤2) :
  Calls Tryz.prog 126 #[.int .i64 t] w fun e w'=>e=.returned (.int .i64 (q_p t))∧Below w.heap.size w w':=by
 have h:t=0∨t=1∨t=2:=by omega
 rcases h with rfl | rfl | rfl
 all_goals
  go_enter Tryz.func126,Tryz.ntmps126
  go_wp2
  go_ret
  exact ⟨rfl,by go_grown⟩
theorem f_8 (t:Int) (w:World) (h0:0≤t) (h2:t≤2) :
  Calls Tryz.prog 164 #[.int .i64 t] w fun e w'=>e=.returned (.int .i64 (q_n t))∧Below w.heap.size w w':=by
 have h:t=0∨t=1∨t=2:=by omega
 rcases h with rfl | rfl | rfl
 all_goals
  go_enter Tryz.func164,Tryz.ntmps164
  go_wp2
  go_ret
  exact ⟨rfl,by go_grown⟩
theorem d_U (a a':Option Addr) (n c n' c':Nat) (ws ts:List Int) (i:Int) (w:World) (S1:Sl w a n ws) (S2:Sl w a' n' ts) (hi:(Lit.int .i64 i).wf=true) :
  Calls Tryz.prog 95 #[.agg #[.slice a n c,.slice a' n' c'],.int .i64 i] w fun e w'=>e=.returned (.int .i64 (a_L ws ts i))∧Below w.heap.size w w':=by
 have hb0:=N52;have HB:=Lib.hid hb0;clear hb0
 cases hm:c_E ws ts with
 | false =>
  have Hm:=Lib.hid hm;clear hm
  go_enter Tryz.func95,Tryz.ntmps95
  go_wp2_with fail
  refine (b_z a a' n c n' c' ws ts _ (slA _ S1) (slA _ S2)).mono ?_;rintro e w1 ⟨rfl,hb⟩;have hb1:=N4;rw [Hm.out]
  go_wp2
  go_ret
  exact ⟨j_f (by simp [a_L,Hm.out]),hb1⟩
 | true =>
  have Hm:=Lib.hid hm;obtain ⟨z0,z1,z2⟩:=c_4 hm;have hn:=S1.1;have hn':=S2.1;obtain rfl:n'=n:=by omega
  obtain ⟨-,b1,o1,rfl,R1⟩:=c_I S1 (by omega);obtain ⟨-,b2,o2,rfl,R2⟩:=c_I S2 (by omega);have ⟨Hn,Hn'⟩:=hh2 hn hn';have z3:1≤n':=by omega
  have z4:n'≤160:=by omega
  clear hm z0 z1 z2 hn hn'
  go_enter Tryz.func95,Tryz.ntmps95
  go_wp2_with fail
  refine (b_z _ _ n' c n' c' ws ts _ (slA _ S1) (slA _ S2)).mono ?_;rintro e w1 ⟨rfl,hb⟩;have hb1:=N4;obtain ⟨hc,hf⟩:=e_M hb;have hs1:w.heap.size < w1.heap.size:=by have:=hb.size;simp at this;omega
  rw [Hm.out]
  go_wp2_with fail
  refine (e_8 _ _ n' c n' c' i 1 _ z4 HB.out.1 HB.out.2).mono ?_;rintro e w2 ⟨rfl,hb'⟩;have hb2:=N71
  cases hin:b_U n' i 1 with
  | false =>
   have HE:=Lib.hid (show (3:Int)=a_L ws ts i by
    have:¬ (0≤i∧i < ws.length):=by rw [Hn.out];simp [b_U] at hin;omega
    rw [a_L,if_pos Hm.out,if_neg this])
   clear hin
   go_wp2
   go_ret
   exact ⟨j_f HE.out,hb2⟩
  | true =>
   have hi2:0≤i∧i < n':=by simp [b_U] at hin;omega
   obtain ⟨hi0,hi1⟩:=hi2;clear hin;obtain ⟨k,rfl⟩:=Int.eq_ofNat_of_zero_le hi0;have hk:k < n':=by omega
   have HE:=Lib.hid (show q_p (ts.getD k 0)=a_L ws ts (k:Int) by
    rw [a_L,if_pos Hm.out,if_pos ⟨by omega,by rw [Hn.out];omega⟩];simp)
   have ht:=j_T Hm.out k (by rw [Hn.out];exact hk);have g2:=n_a hb2 R2 k (by rw [Hn'.out];exact hk)
   generalize ts.getD k 0=tv at HE ht g2
   obtain ⟨ht0,ht2⟩:=ht;obtain ⟨hc',hf'⟩:=e_M hb'
   go_wp2_with fail
   refine (d_2 _ _ ht0 ht2).mono ?_;rintro e w3 ⟨rfl,hb''⟩;have hb3:Below w.heap.size w w3:=hb2.trans (hb''.mono hb2.size)
   go_wp2
   go_ret
   exact ⟨j_f HE.out,hb3⟩
theorem f_n (a a':Option Addr) (n c n' c':Nat) (ws ts:List Int) (i:Int) (w:World) (S1:Sl w a n ws) (S2:Sl w a' n' ts) (hi:(Lit.int .i64 i).wf=true) :
  Calls Tryz.prog 112 #[.agg #[.slice a n c,.slice a' n' c'],.int .i64 i] w fun e w'=>e=.returned (.tuple #[.int .i64 (b_T ws ts i),.int .i64 (a_L ws ts i)])∧Below w.heap.size w w':=by
 by_cases he:a_L ws ts i=0
 ·obtain ⟨hm,h0,h1,h2⟩:=f_5 he;obtain ⟨z0,z1,z2⟩:=c_4 hm;have hn:=S1.1;have hn':=S2.1;obtain rfl:n'=n:=by omega
  obtain ⟨-,b1,o1,rfl,R1⟩:=c_I S1 (by omega);have Hn:=Lib.hid hn;have z3:1≤n':=by omega
  have hlt:i < n':=by omega
  have ⟨HE,HW⟩:=hh2 he hi;clear hm z0 z1 z2 hn hn' h1 h2 he hi;obtain ⟨k,rfl⟩:=N99;have hk:k < n':=by omega
  have HV:=Lib.hid (show ws.getD k 0=b_T ws ts (k:Int) by rw [b_T,if_pos HE.out];simp)
  go_enter Tryz.func112,Tryz.ntmps112
  go_wp2_with fail
  refine (d_U _ _ n' c n' c' ws ts _ _ (slA _ S1) (slA _ S2) HW.out).mono ?_;rintro e w1 ⟨rfl,hb⟩;have hb1:=N4;obtain ⟨hc,hf⟩:=e_M hb;have g1:=n_a hb1 R1 k (by rw [Hn.out];exact hk)
  generalize ws.getD k 0=wv at HV g1
  rw [HE.out]
  go_wp2
  go_ret2
  exact ⟨m_A HV.out HE.out.symm,hb1⟩
 ·have HE:=Lib.hid (show (a_L ws ts i != 0)=true by simpa using he);have HV:=Lib.hid (show b_T ws ts i=0 by rw [b_T,if_neg he]);have HW:=Lib.hid hi;clear he hi
  go_enter Tryz.func112,Tryz.ntmps112
  go_wp2_with fail
  refine (d_U _ _ n c n' c' ws ts _ _ (slA _ S1) (slA _ S2) HW.out).mono ?_;rintro e w1 ⟨rfl,hb⟩;have hb1:=N4;have HE':=HE.out;obtain ⟨ev,hev⟩:=mn (a_L ws ts i);have HX:=Lib.hid hev;rw [hev] at HE' ⊢;clear hev
  go_wp2
  go_ret2
  exact ⟨m_A HV.out.symm HX.out.symm,hb1⟩
def h_v (ws ts:List Int) (x:Int) (w:World) (e:Ending) (w':World):Prop:=
 ∃ a n c a' n' c',e=.returned (.tuple #[.agg #[.slice a n c,.slice a' n' c'],.int .i64 x])∧SlF w.heap.size w' a n ws∧SlF w.heap.size w' a' n' ts∧Below w.heap.size w w'
theorem c_5 {x:Int} {w w':World} (hb:Below w.heap.size w w'):h_v [] [] x w (.returned (.tuple #[.agg #[.slice none 0 0,.slice none 0 0],.int .i64 x])) w':=
 ⟨_,_,_,_,_,_,rfl,f_Z _ _,f_Z _ _,hb⟩
theorem f_L {x:Int} {w w':World} {p q n m c c':Nat} {ws ts:List Int} (hw:ws.length=n) (ht:ts.length=m) {t t':TypeId} {fr fr':Nat×Nat} (hp:w.heap.size≤p) (hq:w.heap.size≤q) (h1:w'.heap[p]?=some (.cells (Ir ws) t fr)) (h2:w'.heap[q]?=some (.cells (Ir ts) t' fr')) (hb:Below w.heap.size w w') :
  h_v ws ts x w (.returned (.tuple #[.agg #[.slice (some ⟨p,0,none⟩) n c,.slice (some ⟨q,0,none⟩) m c'],.int .i64 x])) w':=
 ⟨_,_,_,_,_,_,rfl,⟨hw,.inr ⟨_,_,rfl,hp,j_2 h1⟩⟩,⟨ht,.inr ⟨_,_,rfl,hq,j_2 h2⟩⟩,hb⟩
def n_d (n:Nat) (ws ts:List Int) (w:World) (e:Ending) (w':World):Prop:=
 ∃ p q:Nat,e=.returned (.agg #[.slice (some ⟨p,0,none⟩) n n,.slice (some ⟨q,0,none⟩) n n])∧p≠q∧w.heap.size≤p∧w.heap.size≤q∧w'.heap[p]?=some (.cells (Ir ws) 3)∧w'.heap[q]?=some (.cells (Ir ts) 3)∧Below w.heap.size w w'
theorem f_D (b1 o1 b2 o2 n c1 c2:Nat) (ws ts:List Int) (w:World) (hw:ws.length=n) (ht:ts.length=n) (R1:Row w b1 o1 ws) (R2:Row w b2 o2 ts) (h160:n≤160) :
  Calls Tryz.prog 96 #[.agg #[.slice (some ⟨b1,o1,none⟩) n c1,.slice (some ⟨b2,o2,none⟩) n c2]] w (n_d n ws ts w):=by
 have hmk:=h_S n (by omega);have ⟨Hw,Ht⟩:=hh2 hw ht;clear hw ht
 go_enter Tryz.func96,Tryz.ntmps96
 go_wp2
 go_region
 all_goals clear hmk
 all_goals
  go_wp2_with fail
  rw [h_I _ _ _ _ _ _ _ _ ws Hw.out (by rw [e_o];first | (rw [a_W];case hg=>(simp;done)) | ((rw [a_3];case hg=>(simp;done));(rw [a_W];case hg=>(simp;done))) | ((rw [a_3];case hg=>(simp;done));(rw [a_3];case hg=>(simp;done));(rw [a_W];case hg=>(simp;done)))) (q_R (j_1 _ (j_1 _ (j_1 _ (j_1 _ (j_1 _ R1))))))];rw [f_Y];first | (rw [c_y];case hg=>(simp;done)) | ((rw [c_z];case hg=>(simp;done));(rw [c_y];case hg=>(simp;done))) | ((rw [c_z];case hg=>(simp;done));(rw [c_z];case hg=>(simp;done));(rw [c_y];case hg=>(simp;done)))
  go_wp2_with fail
  rw [h_I _ _ _ _ _ _ _ _ ts Ht.out (by rw [e_o];first | (rw [a_W];case hg=>(simp;done)) | ((rw [a_3];case hg=>(simp;done));(rw [a_W];case hg=>(simp;done))) | ((rw [a_3];case hg=>(simp;done));(rw [a_3];case hg=>(simp;done));(rw [a_W];case hg=>(simp;done)))) (q_R (j_1 _ (j_1 _ (j_1 _ (j_1 _ (j_1 _ R2))))))];rw [f_Y];first | (rw [c_y];case hg=>(simp;done)) | ((rw [c_z];case hg=>(simp;done));(rw [c_y];case hg=>(simp;done))) | ((rw [c_z];case hg=>(simp;done));(rw [c_z];case hg=>(simp;done));(rw [c_y];case hg=>(simp;done)))
  go_wp2_with fail
  go_returns
  exact ⟨_,_,rfl,by omega,by omega,by omega,(by rw [e_o];first | (rw [a_W];case hg=>(simp;done)) | ((rw [a_3];case hg=>(simp;done));(rw [a_W];case hg=>(simp;done))) | ((rw [a_3];case hg=>(simp;done));(rw [a_3];case hg=>(simp;done));(rw [a_W];case hg=>(simp;done)))),(by rw [e_o];first | (rw [a_W];case hg=>(simp;done)) | ((rw [a_3];case hg=>(simp;done));(rw [a_W];case hg=>(simp;done))) | ((rw [a_3];case hg=>(simp;done));(rw [a_3];case hg=>(simp;done));(rw [a_W];case hg=>(simp;done)))),by go_grown⟩
theorem j_H {w:World} {b k:Nat} {zs:List Int} {t:TypeId} {fr:Nat×Nat} (h:w.heap[b]?=some (.cells (Ir zs) t fr)) (hk:k < zs.length):w.cell? ⟨b,k,none⟩=some (.int .i64 (zs.getD k 0)):=by
 simp only [World.cell?,h]
 simpa using o_r zs k hk
theorem m_J {w:World} {b k:Nat} {zs:List Int} {t:TypeId} {fr:Nat×Nat} {v:Int} (h:w.heap[b]?=some (.cells (Ir zs) t fr)):(w.setCell ⟨b,k,none⟩ (.int .i64 v)).heap[b]?=some (.cells (Ir (zs.set k v)) t fr):=by
 have hb:b < w.heap.size:=(Array.getElem?_eq_some_iff.1 h).1;simp only [World.setCell,Array.getElem?_modify,↓reduceIte,h,Option.map_some];simp [p_U]
theorem e_V {w:World} {b:Nat} {o:Obj} (h:w.heap[b]?=some o):b < w.heap.size:=(Array.getElem?_eq_some_iff.1 h).1
theorem l_j (a a':Option Addr) (n c n' c':Nat) (ws ts:List Int) (i v:Int) (w:World) (S1:Sl w a n ws) (S2:Sl w a' n' ts) (hi:(Lit.int .i64 i).wf=true) :
  Calls Tryz.prog 50 #[.agg #[.slice a n c,.slice a' n' c'],.int .i64 i,.int .i64 v] w (h_v (f_2 ws ts i v) (f_1 ws ts i) (a_L ws ts i) w):=by
 by_cases he:a_L ws ts i=0
 ·obtain ⟨hm,h0,h1,h2⟩:=f_5 he;obtain ⟨z0,z1,z2⟩:=c_4 hm;have hn:=S1.1;have hn':=S2.1;obtain rfl:n'=n:=by omega
  obtain ⟨-,b1,o1,rfl,R1⟩:=c_I S1 (by omega);obtain ⟨-,b2,o2,rfl,R2⟩:=c_I S2 (by omega);have ⟨Hn,Hn'⟩:=hh2 hn hn';have z3:1≤n':=by omega
  have z4:n'≤160:=by omega
  have hlt:i < n':=by omega
  have ⟨HE,HW⟩:=hh2 he hi;have H1:=Lib.hid (show f_2 ws ts i v=ws.set i.toNat v by rw [f_2,if_pos he]);have H2:=Lib.hid (show f_1 ws ts i=ts by rw [f_1,if_pos he]);clear hm z0 z1 z2 hn hn' h1 h2 he hi;rw [H1.out,H2.out,HE.out];clear H1 H2;obtain ⟨k,rfl⟩:=N99;have hk:k < n':=by omega
  rw [Int.toNat_natCast]
  go_enter Tryz.func50,Tryz.ntmps50
  go_wp2_with fail
  refine (d_U _ _ n' c n' c' ws ts _ _ (slA _ (slA _ S1)) (slA _ (slA _ S2)) HW.out).mono ?_;rintro e w1 ⟨rfl,hb⟩;have hb1:=N4;obtain ⟨hc,hf⟩:=e_M hb;have hs1:=N48;rw [HE.out]
  go_wp2_with fail
  refine (f_D b1 o1 b2 o2 n' c c' ws ts _ Hn.out Hn'.out (n_a hb1 R1) (n_a hb1 R2) z4).mono ?_;rintro e w2 ⟨p,q,rfl,hpq,hp,hq,hhp,hhq,hb'⟩;have hb2:Below w.heap.size w w2:=hb1.trans (hb'.mono hb1.size);obtain ⟨hc',hf'⟩:=e_M hb';have hs2:=N79;have hp2:=e_V hhp;have hq2:=e_V hhq;have ⟨Hp,Hq⟩:=hh2 hhp hhq;have g1:(w2.alloc (.cells #[.slice (some ⟨p,0,none⟩) n' n',.slice (some ⟨q,0,none⟩) n' n'] 26)).cell? ⟨p,k,none⟩=some (.int .i64 (ws.getD k 0)):=a_J _ (j_H hhp (by rw [Hn.out];exact hk));have g2:(w2.alloc (.cells #[.slice (some ⟨p,0,none⟩) n' n',.slice (some ⟨q,0,none⟩) n' n'] 26)).frozen? ⟨p,k,none⟩=false:=b_X (by rw [a_3 _ _ _ hp2];exact hhp)
  generalize ws.getD k 0=wv at g1
  clear hhp hhq;have g3:w2.cell? ⟨w.heap.size+1,0,none⟩=some (.slice none 0 0):=by rw [hc' _ _ (by omega),hc _ _ (by simp)];simp
  have g4:w2.cell? ⟨w.heap.size+1,1,none⟩=some (.slice none 0 0):=by rw [hc' _ _ (by omega),hc _ _ (by simp)];simp
  go_wp2_with fail
  refine a_j ⟨w.heap.size+1,0,none⟩ rfl rfl rfl (d_h _ _ _ _ (a_J _ (by go_cell_look)) (a_J _ (by go_cell_look))) ?_;refine f_L (t:=3) (t':=3) (fr:=(0,0)) (fr':=(0,0)) (by rw [List.length_set,Hn.out]) Hn'.out (by omega) (by omega) ?_ ?_ (by go_grown)
  ·rw [a_3 _ _ _ (by simp;omega),Below.heap_setCell _ _ _ _ (by simp;omega),Below.heap_setCell _ _ _ _ (by simp;omega)];exact m_J Hp.out
  ·rw [a_3 _ _ _ (by simp;omega),Below.heap_setCell _ _ _ _ (by simp;omega),Below.heap_setCell _ _ _ _ (by simp;omega),Below.heap_setCell _ _ _ _ (by simp;omega)];exact Hq.out
 ·have HE:=Lib.hid (show (a_L ws ts i != 0)=true by simpa using he);have H1:=Lib.hid (show f_2 ws ts i v=[] by rw [f_2,if_neg he]);have H2:=Lib.hid (show f_1 ws ts i=[] by rw [f_1,if_neg he]);have HW:=Lib.hid hi;clear he hi;rw [H1.out,H2.out];obtain ⟨ev,hev⟩:=mn (a_L ws ts i);have HX:=Lib.hid hev;have HE':=HE.out;rw [hev] at HE' ⊢;clear hev HE
  go_enter Tryz.func50,Tryz.ntmps50
  go_wp2_with fail
  refine (d_U _ _ n c n' c' ws ts _ _ (slA _ (slA _ S1)) (slA _ (slA _ S2)) HW.out).mono ?_;rintro e w1 ⟨rfl,hb⟩;have hb1:=N4;obtain ⟨hc,hf⟩:=e_M hb;have hs1:=N48;have g3:=N81;have g4:=N82;rw [HX.out];exact J46
def n_f (w:World) (b off:Nat) (ps:List (Int×Int)):Prop:=∀ i,i < ps.length→w.cell? ⟨b,off+i*2,none⟩=some (.int .i64 (ps.getD i (0,0)).1)∧w.cell? ⟨b,off+i*2+1,none⟩=some (.int .i64 (ps.getD i (0,0)).2)
theorem q_K {w:World} {b off:Nat} {ps:List (Int×Int)} (o:Obj) (h:n_f w b off ps):n_f (w.alloc o) b off ps:=fun i hi=>⟨a_J o (h i hi).1,a_J o (h i hi).2⟩
theorem p_C {w w':World} {b off:Nat} {ps:List (Int×Int)} (hb:Below w.heap.size w w') (h:n_f w b off ps):n_f w' b off ps:=fun i hi=>⟨a_n hb (h i hi).1,a_n hb (h i hi).2⟩
def Pl (w:World) (a:Option Addr) (n:Nat) (ps:List (Int×Int)):Prop:=ps.length=n∧(n=0∨∃ b o,a=some ⟨b,o,none⟩∧n_f w b o ps)
theorem plA {w:World} {a:Option Addr} {n:Nat} {ps:List (Int×Int)} (o:Obj) (h:Pl w a n ps):Pl (w.alloc o) a n ps:=
 ⟨h.1,h.2.imp id fun ⟨b,f,e,r⟩=>⟨b,f,e,q_K o r⟩⟩
theorem plB {w w':World} {a:Option Addr} {n:Nat} {ps:List (Int×Int)} (hb:Below w.heap.size w w') (h:Pl w a n ps):Pl w' a n ps:=
 ⟨h.1,h.2.imp id fun ⟨b,f,e,r⟩=>⟨b,f,e,p_C hb r⟩⟩
theorem o_I (w:World):Pl w none 0 []:=⟨rfl,.inl rfl⟩
def PlF (F:Nat) (w:World) (a:Option Addr) (n:Nat) (ps:List (Int×Int)):Prop:=ps.length=n∧(n=0∨∃ b o,a=some ⟨b,o,none⟩∧F≤b∧n_f w b o ps)
theorem PlF.pl {F:Nat} {w:World} {a:Option Addr} {n:Nat} {ps:List (Int×Int)} (h:PlF F w a n ps):Pl w a n ps:=⟨h.1,h.2.imp id fun ⟨b,o,e,_,r⟩=>⟨b,o,e,r⟩⟩
theorem m_y (F:Nat) (w:World):PlF F w none 0 []:=⟨rfl,.inl rfl⟩
theorem n_9 {F G:Nat} {w:World} {a:Option Addr} {n:Nat} {ps:List (Int×Int)} (hg:G≤F) (h:PlF F w a n ps):PlF G w a n ps:=
 ⟨h.1,h.2.imp id fun ⟨b,f,e,hf,r⟩=>⟨b,f,e,by omega,r⟩⟩
def b_p (ps:List (Int×Int)):List Value:=ps.flatMap fun p=>[.int .i64 p.1,.int .i64 p.2]
theorem e_t (ps qs:List (Int×Int)):b_p (ps++qs)=b_p ps++b_p qs:=by simp [b_p]
theorem b_N (ps:List (Int×Int)):(b_p ps).length=ps.length*2:=by
 induction ps with
 | nil=>rfl
 | cons p ps ih=>simp only [b_p,List.flatMap_cons,List.length_append,List.length_cons,List.length_nil] at ih ⊢;omega
theorem e_3:∀ (ps:List (Int×Int)) (i:Nat),i < ps.length→(b_p ps)[i*2]?=some (.int .i64 (ps.getD i (0,0)).1)∧(b_p ps)[i*2+1]?=some (.int .i64 (ps.getD i (0,0)).2)
 | [],i,h=>by simp at h
 | p::ps,0,_=>by simp [b_p]
 | p::ps,i+1,h=>by
  have ih:=e_3 ps i (by simpa using h);have e:b_p (p::ps)=.int .i64 p.1::.int .i64 p.2::b_p ps:=rfl;rw [e,show (i+1)*2=i*2+1+1 by omega]
  simpa using ih
theorem e_4 (ps:List (Int×Int)):∀ u∈b_p ps,u.oneCell'=true:=by
 intro u hu;simp only [b_p,List.mem_flatMap] at hu;obtain ⟨p,_,hp⟩:=hu;simp at hp
 rcases hp with rfl | rfl <;> rfl
theorem f_O {w:World} {b off:Nat} {ps:List (Int×Int)} (R:n_f w b off ps):∀ j u,(b_p ps)[j]?=some u→w.cell? ⟨b,off+j,none⟩=some u:=by
 intro j u hu;have hj:j < (b_p ps).length:=(List.getElem?_eq_some_iff.1 hu).1;rw [b_N] at hj;have hg:=e_3 ps (j / 2) (by omega);have hr:=R (j / 2) (by omega)
 rcases Nat.mod_two_eq_zero_or_one j with h | h
 ·have e:j / 2*2=j:=by omega
  rw [e] at hg hr;rw [hg.1] at hu;rw [hr.1];exact hu
 ·have e:j / 2*2+1=j:=by omega
  rw [Nat.add_assoc,e] at hr;rw [e] at hg;rw [hg.2] at hu;rw [hr.2];exact hu
theorem f_p (b off j:Nat):(⟨b,off,none⟩:Addr).add j=⟨b,off+j,none⟩:=by
 simp only [Addr.add];split
 ·subst_vars;rfl
 ·rfl
def c_0 (a:Option Addr) (n c:Nat):Prop:=n≤c∧c≤9223372036854775807∧(a=none→c=0)
theorem c_3:c_0 none 0 0:=⟨Nat.le_refl _,by omega,fun _=>rfl⟩
theorem f_N {B:Nat} {w:World} {v:Value} {n:Nat} {ps:List (Int×Int)} (h:w.ownsRow B 59 2 v n (b_p ps)):∃ a c,v=.slice a n c∧c_0 a n c∧PlF B w a n ps:=by
 obtain ⟨hl,h⟩:=h;have hl':ps.length=n:=by rw [b_N] at hl;omega
 rcases h with ⟨rfl,h0⟩ | ⟨g,cap,cur,rfl,hb,hg,hn,hm,hs,ht⟩
 ·exact ⟨none,0,by rw [h0],by subst h0;exact c_3,hl',.inl h0⟩
 ·unfold maxLen at hm;refine ⟨_,_,rfl,⟨hn,by omega,fun e=>by cases e⟩,hl',.inr ⟨g,0,rfl,hb,fun i hi=>?_⟩⟩;have e:=e_3 ps i hi;simp only [World.cell?,hg];rw [←ht,List.getElem?_take,List.getElem?_take,if_pos (by omega),if_pos (by omega)] at e;exact ⟨by simpa using e.1,by simpa using e.2⟩
theorem Tryz.info59:(Tryz.prog.info? 59).map (fun i=>(i.zero,i.size,i.bytes))=some (some (.agg #[.int .i64 0,.int .i64 0]),2,16):=by kernel_rfl
def k_e (w:World) (a:Addr) (b:List (Int×Int)):Prop:=∃ q c,w.cell? a=some (.slice q b.length c)∧c_0 q b.length c∧Pl w q b.length b
theorem q_a {w:World} {a:Addr} {b:List (Int×Int)} (o:Obj) (h:k_e w a b):k_e (w.alloc o) a b:=by
 obtain ⟨q,c,h1,h2,h3⟩:=h;exact ⟨q,c,a_J o h1,h2,plA o h3⟩
theorem q_b {w w':World} {a:Addr} {b:List (Int×Int)} (hb:Below w.heap.size w w') (h:k_e w a b):k_e w' a b:=by
 obtain ⟨q,c,h1,h2,h3⟩:=h;exact ⟨q,c,a_n hb h1,h2,plB hb h3⟩
def q_T (w:World) (blk off:Nat) (bs:List (List (Int×Int))):Prop:=∀ i,i < bs.length→k_e w ⟨blk,off+i,none⟩ (bs.getD i [])
def Bl (w:World) (a:Option Addr) (n:Nat) (bs:List (List (Int×Int))):Prop:=bs.length=n∧(n=0∨∃ b o,a=some ⟨b,o,none⟩∧q_T w b o bs)
theorem blA {w:World} {a:Option Addr} {n:Nat} {bs:List (List (Int×Int))} (o:Obj) (h:Bl w a n bs):Bl (w.alloc o) a n bs:=
 ⟨h.1,h.2.imp id fun ⟨b,f,e,r⟩=>⟨b,f,e,fun i hi=>q_a o (r i hi)⟩⟩
theorem blB {w w':World} {a:Option Addr} {n:Nat} {bs:List (List (Int×Int))} (hb:Below w.heap.size w w') (h:Bl w a n bs):Bl w' a n bs:=
 ⟨h.1,h.2.imp id fun ⟨b,f,e,r⟩=>⟨b,f,e,fun i hi=>q_b hb (r i hi)⟩⟩
theorem h_C {w:World} {a:Option Addr} {n:Nat} {bs:List (List (Int×Int))} (h:Bl w a n bs) {i:Nat} (hi:i < n) :
  ∃ b o q c,a=some ⟨b,o,none⟩∧w.cell? ⟨b,o+i,none⟩=some (.slice q (bs.getD i []).length c)∧c_0 q (bs.getD i []).length c∧Pl w q (bs.getD i []).length (bs.getD i []):=by
 obtain ⟨b,o,e,r⟩:=h.2.resolve_left (by omega);obtain ⟨q,c,h1,h2,h3⟩:=r i (by rw [h.1];exact hi);exact ⟨b,o,q,c,e,h1,h2,h3⟩
def k_6 (w:World) (vs:List Value) (bs:List (List (Int×Int))):Prop:=vs.length=bs.length∧∀ i,i < bs.length→∃ q c,vs[i]?=some (.slice q (bs.getD i []).length c)∧c_0 q (bs.getD i []).length c∧Pl w q (bs.getD i []).length (bs.getD i [])
theorem l_r (w:World):k_6 w [] []:=⟨rfl,fun i hi=>by simp at hi⟩
theorem k_m {w:World} {vs:List Value} {bs:List (List (Int×Int))} {q:Option Addr} {n c:Nat} {b:List (Int×Int)} (h:k_6 w vs bs) (hc:c_0 q n c) (hp:Pl w q n b):k_6 w (vs++[.slice q n c]) (bs++[b]):=by
 obtain rfl:b.length=n:=hp.1;refine ⟨by simp [h.1],fun i hi=>?_⟩;rw [List.length_append,List.length_singleton] at hi
 by_cases e:i=bs.length
 ·subst e;refine ⟨q,c,?_,?_,?_⟩
  ·rw [List.getElem?_append_right (by rw [h.1];exact Nat.le_refl _),h.1];simp
  ·simpa using hc
  ·simpa using hp
 ·have hi':i < bs.length:=by omega
  obtain ⟨q',c',h1,h2,h3⟩:=h.2 i hi'
  have e2:(bs++[b]).getD i []=bs.getD i []:=by
   simp only [List.getD_eq_getElem?_getD];rw [List.getElem?_append_left hi']
  rw [e2];exact ⟨q',c',by rw [List.getElem?_append_left (by rw [h.1];exact hi')];exact h1,h2,h3⟩
end Go.Proofs.YtolabfafgbmdbaaGreatDoor
