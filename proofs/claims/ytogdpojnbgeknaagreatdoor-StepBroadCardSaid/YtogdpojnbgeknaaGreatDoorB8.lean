import Derived.Test.YtogdpojnbgeknaaGreatDoorB7
import Derived.Deep.RegionLaw
import Derived.Deep.RegionLawGrows
import Derived.Maps.AppendAt
import Derived.Test.YtogdpojnbgeknaaGreatDoorB0
import Derived.Test.YtogdpojnbgeknaaGreatDoorB5
import Derived.Deep.RegionWith
import Derived.Test.YtogdpojnbgeknaaGreatDoorB6
import Derived.Test.YtogdpojnbgeknaaGreatDoorB4
import Derived.Test.YtogdpojnbgeknaaGreatDoorB3
import Derived.Test.YtogdpojnbgeknaaGreatDoorB2
set_option maxRecDepth 100000
set_option maxHeartbeats 16000000
namespace Go.Proofs.YtogdpojnbgeknaaGreatDoor
open Go.ChangeShapes Go.WideShapes Go.ChangeAt Go.RowKit
theorem g_n {w:World} {B:Nat} {e:TypeId} {v:Value} {n:Nat} {xs:List Value} (h:w.ownsRow B e 1 v n xs):∃ a c,v=.slice a n c:=by
 exact J71
theorem u_h {w:World} {B:Nat} {e:TypeId} {v:Value} {n:Nat} {xs:List Value} (h:w.ownsRow B e 1 v n xs) {r:Nat} (hr:v.ownBlock=some r):B≤r:=by
 rcases h.2 with ⟨rfl,_⟩ | ⟨g,cap,cur,rfl,hb,_⟩
 ·simp [Value.ownBlock] at hr
 ·simp [Value.ownBlock] at hr;omega
theorem g_k {F:Nat} {wr w0 w1 w2:World} {e:TypeId} {v:Value} {n:Nat} {xs:List Value} (h0:Below F wr w0) (hs:F≤w0.heap.size) (hg:w0.grownBy w1 v.ownBlock) (ho:w2.ownsRow F e 1 v n xs):Below F wr w1:=
 h0.grown hg hs (fun _ hr=>u_h ho hr)
theorem h_F {w:World} {g:Nat} {x y z u:Value} (h:e_d w g x y z u) (u':Value):e_d (w.setCell ⟨g,3,none⟩ u') g x y z u':=by
 obtain ⟨⟨a,b,c,d⟩,e,f,i,j⟩:=h;have ne:∀ k,k≠3→(⟨g,3,none⟩:Addr)≠⟨g,k,none⟩:=fun k hk e=>hk (congrArg Addr.off e).symm
 refine ⟨⟨?_,?_,?_,World.cell?_setCell_same' _ _ _ (by rw [d];rfl)⟩,?_,?_,?_,?_⟩
 ·rw [World.cell?_setCell_other _ _ _ _ (ne _ (by decide))];exact a
 ·rw [World.cell?_setCell_other _ _ _ _ (ne _ (by decide))];exact b
 ·rw [World.cell?_setCell_other _ _ _ _ (ne _ (by decide))];exact c
 all_goals (rw [World.frozen?_setCell];assumption)
theorem c_c {w:World} {g g' o:Nat} {x y z u:Value} (h:e_d w g x y z u) (hne:g'≠g) (v:Value):e_d (w.setCell ⟨g',o,none⟩ v) g x y z u:=by
 obtain ⟨⟨a,b,c,d⟩,e,f,i,j⟩:=h;have ne:=N210;refine ⟨⟨?_,?_,?_,?_⟩,?_,?_,?_,?_⟩
 ·rw [World.cell?_setCell_other _ _ _ _ (ne _)];exact a
 ·rw [World.cell?_setCell_other _ _ _ _ (ne _)];exact b
 ·rw [World.cell?_setCell_other _ _ _ _ (ne _)];exact c
 ·rw [World.cell?_setCell_other _ _ _ _ (ne _)];exact d
 all_goals (rw [World.frozen?_setCell];assumption)
def g_0 (r:Bool) (w:World) (e:Ending) (w':World):Prop:=e=.returned (.bool r)∧Below w.heap.size w w'
theorem c_y {r s:Bool} {w w':World} (h:r=s) (hb:Below w.heap.size w w'):g_0 r w (.returned (.bool s)) w':=by subst h;exact ⟨rfl,hb⟩
theorem i_0 (b1 o1 b2 o2 n c1 c2:Nat) (ws ts:List Int) (w:World) (hw:ws.length=n) (ht:ts.length=n) (R1:Row w b1 o1 ws) (R2:Row w b2 o2 ts) (h0:1≤n) (h160:n≤160) :
  Calls Tryz.prog 12 #[.agg #[.slice (some ⟨b1,o1,none⟩) n c1,.slice (some ⟨b2,o2,none⟩) n c2]] w (g_0 (d_g ws ts) w):=by
 have ⟨Hw,Ht⟩:=hh2 hw ht;clear hw ht;have t0:=N111;have t1:=N159;have t2:((n:Int) != n)=false:=by simp
 go_enter Tryz.func12,Tryz.ntmps12
 go_wp2
 go_loop [27] (fun i=>∃ k:Nat,k≤n∧i=.int .i64 k∧Hid (f_q ws ts k)) (fun i=>n - (intOf i).toNat)
 case atStart=>exact ⟨0,by omega,rfl,by intro i hi;omega⟩
 case round =>
  obtain ⟨k,hk,rfl,hr⟩:=hrel
  by_cases hlt:k < n
  ·have g1:=a_8 (Obj.cells #[.slice (some ⟨b1,o1,none⟩) n c1,.slice (some ⟨b2,o2,none⟩) n c2] 26) (R1 k (by rw [Hw.out];exact hlt));have g2:=a_8 (Obj.cells #[.slice (some ⟨b1,o1,none⟩) n c1,.slice (some ⟨b2,o2,none⟩) n c2] 26) (R2 k (by rw [Ht.out];exact hlt))
   generalize htv:ts.getD k 0=tv at g2
   generalize hwv:ws.getD k 0=wv at g1
   have ⟨Htv,Hwv⟩:=hh2 htv hwv;clear htv hwv
   by_cases q1:tv < 0
   ·have H:=Lib.hid (g_i Hw.out hlt Htv.out Hwv.out (.inl q1))
    go_wp2
    go_ret
    exact c_y H.out (by go_grown)
   ·by_cases q2:2 < tv
    ·have H:=Lib.hid (g_i Hw.out hlt Htv.out Hwv.out (.inr (.inl q2)))
     go_wp2
     go_ret
     exact c_y H.out (by go_grown)
    ·by_cases q3:tv=0
     ·subst q3
      by_cases q4:wv=0
      ·subst q4;have H:=Lib.hid (h_g hr.out Htv.out Hwv.out (by omega))
       go_wp2
       go_round
       case rel=>exact ⟨k+1,by omega,by go_num,H.out⟩
       case measure=>simp [intOf];omega
      ·have q5:(wv != 0)=true:=by simp [q4]
       have H:=Lib.hid (g_i Hw.out hlt Htv.out Hwv.out (.inr (.inr ⟨rfl,q4⟩)));clear q4
       go_wp2
       go_ret
       exact c_y H.out (by go_grown)
     ·have q4:(tv==0)=false:=by simp [q3]
      have H:=Lib.hid (h_g hr.out Htv.out Hwv.out (by omega));clear q3
      go_wp2
      go_round
      case rel=>exact ⟨k+1,by omega,by go_num,H.out⟩
      case measure=>simp [intOf];omega
  ·obtain rfl:k=n:=by omega
   have H:=Lib.hid (l_7 Hw.out Ht.out h0 h160 hr.out)
   go_wp2
   go_ret
   exact c_y H.out (by go_grown)
theorem j_X (a a':Option Addr) (n c n' c':Nat) (ws ts:List Int) (w:World) (hw:ws.length=n) (ht:ts.length=n') (h:¬ (1≤n∧n≤160∧n'=n)) :
  Calls Tryz.prog 12 #[.agg #[.slice a n c,.slice a' n' c']] w (g_0 (d_g ws ts) w):=by
 have hm:d_g ws ts=false:=by simp [d_g,l_p,hw,ht,h]
 have Hm:=Lib.hid hm;clear hm hw ht
 by_cases h1:n < 1
 ·have t0:decide ((n:Int) < 1)=true:=by simp;omega
  exact J75
 ·by_cases h2:160 < n
  ·have t0:=N111;have t1:decide (160 < (n:Int))=true:=by simp;omega
   exact J75
  ·have t0:=N111;have t1:=N159;have t2:((n':Int) != n)=true:=by simp;omega
   exact J75
theorem d_s (a a':Option Addr) (n c n' c':Nat) (ws ts:List Int) (w:World) (S1:Sl w a n ws) (S2:Sl w a' n' ts) :
  Calls Tryz.prog 12 #[.agg #[.slice a n c,.slice a' n' c']] w fun e w'=>e=.returned (.bool (d_g ws ts))∧Below w.heap.size w w':=by
 by_cases h:1≤n∧n≤160∧n'=n
 ·obtain ⟨h0,h1,rfl⟩:=h;obtain ⟨hw,b1,o1,rfl,R1⟩:=c_Y S1 h0;obtain ⟨ht,b2,o2,rfl,R2⟩:=c_Y S2 h0;exact i_0 b1 o1 b2 o2 n' c c' ws ts w hw ht R1 R2 h0 h1
 ·exact j_X a a' n c n' c' ws ts w S1.1 S2.1 h
theorem d_X (a a':Option Addr) (n c n' c':Nat) (ws ts:List Int) (i:Int) (w:World) (S1:Sl w a n ws) (S2:Sl w a' n' ts) (hm:d_g ws ts=true) :
  Calls Tryz.prog 51 #[.agg #[.slice a n c,.slice a' n' c'],.int .i64 i] w fun e w'=>e=.returned (.tuple #[.int .i64 (b_L ws ts i),.int .i64 (a_I ws ts i)])∧Below w.heap.size w w':=by
 obtain ⟨z0,z1,z2⟩:=c_v hm;have hn:=S1.1;have hn':=S2.1;obtain rfl:n'=n:=by omega
 obtain ⟨-,b1,o1,rfl,R1⟩:=c_Y S1 (by omega);obtain ⟨-,b2,o2,rfl,R2⟩:=c_Y S2 (by omega);have z4:n'≤160:=by omega
 by_cases h0:i < 0
 ·have HE:=Lib.hid (show a_I ws ts i=3 by rw [a_I,if_pos hm,if_neg (by omega)]);have HV:=Lib.hid (show b_L ws ts i=0 by rw [b_L,HE.out,if_neg (by decide)]);exact J93
 ·obtain ⟨k,rfl⟩:=Int.eq_ofNat_of_zero_le (show 0≤i by omega)
  by_cases h1:k < n'
  ·have ht:=g_P hm k (by omega);have HE:=Lib.hid (show a_I ws ts (k:Int)=r_D (ts.getD k 0) by rw [a_I,if_pos hm,if_pos ⟨by omega,by omega⟩];simp);have HV:=Lib.hid (show b_L ws ts (k:Int)=if r_D (ts.getD k 0)=0 then ws.getD k 0 else 0 by rw [b_L,HE.out];simp);have g1:=a_8 (Obj.cells #[.slice (some ⟨b1,o1,none⟩) n' c,.slice (some ⟨b2,o2,none⟩) n' c'] 26) (R1 k (by omega));have g2:=a_8 (Obj.cells #[.slice (some ⟨b1,o1,none⟩) n' c,.slice (some ⟨b2,o2,none⟩) n' c'] 26) (R2 k (by omega))
   generalize ts.getD k 0=tv at ht HE HV g2
   generalize ws.getD k 0=wv at HV g1
   have ht':tv=0∨tv=1∨tv=2:=by omega
   clear hm hn hn' z0 z1 z2 ht
   rcases ht' with rfl | rfl | rfl
   all_goals
    go_enter Tryz.func51,Tryz.ntmps51
    go_wp2
    go_ret2
    exact ⟨h_t (by rw [HV.out];rfl) (by rw [HE.out];rfl),by go_grown⟩
  ·have HE:=Lib.hid (show a_I ws ts (k:Int)=3 by rw [a_I,if_pos hm,if_neg (by omega)]);have HV:=Lib.hid (show b_L ws ts (k:Int)=0 by rw [b_L,HE.out,if_neg (by decide)]);exact J93
theorem g_F (k D:Int) (w:World):Calls Tryz.prog 83 #[.int .i64 k,.int .i64 D] w fun e w'=>e=.returned (.bool (c_f k D))∧w=w':=by
 have H:=Lib.hid (show c_f k D=decide (1≤k∧k≤8∧0≤D∧D≤8) from rfl)
 by_cases h1:1≤k
 all_goals by_cases h2:k≤8
 all_goals by_cases h3:0≤D
 all_goals
  go_enter Tryz.func83,Tryz.ntmps83
  go_wp2
  go_ret
  exact ⟨f_Y (by rw [H.out,Bool.eq_iff_iff];simp;try omega),rfl⟩
theorem i_Z (a a' q:Option Addr) (n c n' c' l d:Nat) (ws ts:List Int) (D:Int) (bs:List (List (Int×Int))) (w:World) (S1:Sl w a n ws) (S2:Sl w a' n' ts) (S:Bl w q l bs) :
  Calls Tryz.prog 40 #[.agg #[.slice a n c,.slice a' n' c',.int .i64 D,.slice q l d]] w (b_h (d_o ws ts D bs) w):=by
 have Hn:=Lib.hid S1.1;have Hl:=Lib.hid S.1
 cases hm:d_g ws ts with
 | false =>
  have HM:=Lib.hid hm;have HT:=Lib.hid (show d_o ws ts D bs=false by simp [d_o,hm]);clear hm
  go_enter Tryz.func40,Tryz.ntmps40
  go_wp2_with fail
  refine (d_s a a' n c n' c' ws ts _ (slA _ S1) (slA _ S2)).mono ?_;exact J98
 | true =>
  have HM:=Lib.hid hm;clear hm
  cases hs:c_f l D with
  | false =>
   have HT:=Lib.hid (show d_o ws ts D bs=false by
    have:c_f bs.length D=false:=by rw [Hl.out];exact hs
    simp [d_o,this])
   have HS:=Lib.hid hs;clear hs
   go_enter Tryz.func40,Tryz.ntmps40
   go_wp2_with fail
   refine (d_s a a' n c n' c' ws ts _ (slA _ S1) (slA _ S2)).mono ?_;rintro e w1 ⟨rfl,hb⟩;rw [HM.out];have hb1:=N6;have c2:=N108;have c3:=N59;have HB1:=Lib.hid hb1;clear hb hb1
   go_wp2_with fail
   refine (g_F l D _).mono ?_;rintro e w2 ⟨rfl,rfl⟩;rw [HS.out]
   go_wp2
   go_ret
   exact a_k HT.out HB1.out
  | true =>
   have hs':c_f bs.length D=true:=by rw [Hl.out];exact hs
   have ⟨HS,HS2⟩:=hh2 hs' hs;simp only [c_f,decide_eq_true_eq] at hs;obtain ⟨s1,s2,s3,s4⟩:=hs;have s1':1≤l:=by omega
   have s2':l≤8:=by omega
   clear hs' s1 s2
   go_enter Tryz.func40,Tryz.ntmps40
   go_wp2_with fail
   refine (d_s a a' n c n' c' ws ts _ (slA _ S1) (slA _ S2)).mono ?_;rintro e w1 ⟨rfl,hb⟩;rw [HM.out];have hb1:=N6;have c0:=N221;have c1:=N214;have c2:=N108;have c3:=N59;have HB1:=Lib.hid hb1;have S':=blB hb1 S;clear hb hb1 S
   go_wp2_with fail
   refine (g_F l D _).mono ?_;rintro e w2 ⟨rfl,rfl⟩;rw [HS2.out]
   go_wp2
   go_loopw [23] (fun s wr=>∃ k:Nat,k≤l∧s=.int .i64 k∧Hid (j_i ws.length D bs k)∧Below w1.heap.size w1 wr) (fun s _=>l - (intOf s).toNat)
   case atStart=>exact ⟨0,by omega,rfl,by intro j hj;omega,Below.refl _ _⟩
   case round =>
    obtain ⟨k,hk,rfl,hr,hb⟩:=hrel;have c0':=a_t hb c0;have c2':=a_t hb c2;have HB:=Lib.hid hb
    by_cases hlt:k < l
    ·obtain ⟨b,o,p,pc,rfl,k0,hcap,hp⟩:=g_5 (blB hb S') hlt;obtain ⟨x,hx⟩:=mn (bs.getD k []);rw [hx] at k0 hp hcap;have HX:=Lib.hid hx;obtain ⟨m,hmm⟩:=mn (x.length);rw [hmm] at k0 hp hcap;have HMM:=Lib.hid hmm;have hcap1:=hcap.1;have hcap2:=hcap.2.1;have i1:(0:Int)≤k:=by omega
     have i2:(k:Int) < l:=by omega
     clear hx hmm hb hcap
     by_cases hD:D < m
     ·have HF:=Lib.hid (g_Q (ws:=ws) (ts:=ts) (D:=D) (bs:=bs) (k:=k) (by rw [Hl.out];exact hlt) (by rw [HX.out];simp [g_c,HMM.out];omega));exact J82
     ·have hD':(m:Int)≤D:=by omega
      go_wp2_with fail
      go_loopw [34] (fun s wq=>∃ i:Nat,i≤m∧s=.int .i64 i∧Hid (h_Y n x i)∧Below wr.heap.size wr wq) (fun s _=>m - (intOf s).toNat)
      case atStart=>exact ⟨0,by omega,rfl,by intro j hj;omega,Below.refl _ _⟩
      case round =>
       obtain ⟨i,hi,rfl,hri,hbi⟩:=hrel;have c0'':=a_t hbi c0';have HBI:=Lib.hid hbi
       by_cases hlt2:i < m
       ·obtain ⟨pb,po,rfl,R⟩:=hp.2.resolve_left (by omega);have g:=R i (by rw [HMM.out];exact hlt2);have g1:=a_t hbi g.1;have g2:=a_t hbi g.2;obtain ⟨y,hy⟩:=mn (x.getD i (0,0));rw [hy] at g1 g2;obtain ⟨y1,y2⟩:=y;have HY:=Lib.hid hy;dsimp only at g1 g2;have j1:(0:Int)≤i:=by omega
        have j2:(i:Int) < m:=by omega
        have d0:=a_8 (Obj.cells #[.int .i64 y1,.int .i64 y2] 59) c0'';have hszi:=hbi.size;clear g hy hbi
        by_cases hin:0≤y1∧y1 < n
        ·obtain ⟨h1,h2⟩:=hin;have HF:=Lib.hid (h_p hri.out (by rw [HY.out];simp [inP];omega))
         go_wp2_with fail
         go_roundw
         case rel=>exact ⟨i+1,by omega,by go_num,HF.out,HBI.out.alloc hszi _⟩
         case measure=>simp [intOf];omega
        ·have HF:=Lib.hid (g_Q (ws:=ws) (ts:=ts) (D:=D) (bs:=bs) (k:=k) (by rw [Hl.out];exact hlt) (by rw [HX.out,Hn.out];exact q_v (k:=i) (by rw [HMM.out];exact hlt2) (by rw [HY.out];simp [inP];omega)))
         by_cases h1:0≤y1
         ·have h2:(n:Int)≤y1:=by omega
          exact J106
         ·exact J106
       ·obtain rfl:i=m:=by omega
        have HF:=Lib.hid (g_6 hr.out (by rw [HX.out,Hn.out];exact n_0 (by rw [HMM.out];exact hD') (by rw [HMM.out];exact hri.out)));clear hbi
        go_wp2_with fail
        go_roundw
        case rel=>exact ⟨k+1,by omega,by go_num,HF.out,HB.out.trans (HBI.out.mono HB.out.size)⟩
        case measure=>simp [intOf];omega
    ·obtain rfl:k=l:=by omega
     have HF:=Lib.hid (j_O HM.out HS.out (by rw [Hl.out];exact hr.out));clear hb;exact J82
def k_s (Q:Nat→Prop) (ws ts:List Int) (x:Int) (w:World) (e:Ending) (w':World):Prop:=
 ∃ a n c a' n' c',e=.returned (.tuple #[.agg #[.slice a n c,.slice a' n' c'],.int .i64 x])∧SlP Q w' a n ws∧SlP Q w' a' n' ts∧Below w.heap.size w w'
theorem c_G (Q:Nat→Prop) (a a':Option Addr) (n c n' c':Nat) (ws ts:List Int) (i v:Int) (w:World) (S1:Sl w a n ws) (U2:SlP Q w a' n' ts) (hQ:∀ b,w.heap.size≤b→Q b) (hm:d_g ws ts=true) :
  Calls Tryz.prog 61 #[.agg #[.slice a n c,.slice a' n' c'],.int .i64 i,.int .i64 v] w (k_s Q (c_t ws ts i v) (c_s ws ts i) (a_I ws ts i) w):=by
 have hzz:=c_v hm;have hn1:=S1.1;have hn2:n≤1000:=by omega
 have Hm:=Lib.hid hm;have S2:=U2.sl;have ⟨HU,HQ⟩:=hh2 U2 hQ;clear hm hzz hn1 U2 hQ
 by_cases he:a_I ws ts i=0
 ·have HE:=Lib.hid he;obtain ⟨-,h0,h1,-⟩:=d_0 he
  have H1:=Lib.hid (show c_t ws ts i v=e_B ws i v by
   rw [c_t,if_pos he];obtain ⟨k,rfl⟩:=N120;rw [Int.toNat_natCast,h_K])
  have H2:=Lib.hid (show c_s ws ts i=ts by rw [c_s,if_pos he]);clear he h0 h1;rw [H1.out,H2.out,HE.out]
  go_enter Tryz.func61,Tryz.ntmps61
  go_wp2_with fail
  refine (d_X _ _ n c n' c' ws ts i _ (slA _ (slA _ S1)) (slA _ (slA _ S2)) Hm.out).mono ?_;rintro e w1 ⟨rfl,hb⟩;have hb1:=N6;have k0:=N200;have k1:=N194;have r0:=N69;have r1:=N70;have hs1:=N83;have f0:=N131;have f1:=N132;rw [HE.out]
  generalize b_L ws ts i=lv
  have T1:=Lib.hid (slB hb1 S1);have HB1:=Lib.hid hb1;clear hb hb1 S1 S2
  go_wp2_with fail
  go_region_with (go_at_call 62;refine (l_K a n c ws i v _ (slD T1.out) hn2).mono ?_;rintro e w2 ⟨p,d,rfl,s2,hb2⟩;have k1':w2.cell? ⟨w.heap.size,1,none⟩=some (.slice a' n' c'):=a_t hb2 k1;have r0':w2.cell? ⟨w.heap.size+1,0,none⟩=some (.slice none 0 0):=a_t hb2 r0;have r1':w2.cell? ⟨w.heap.size+1,1,none⟩=some (.slice none 0 0):=a_t hb2 r1;have f0':w2.frozen? ⟨w.heap.size+1,0,none⟩=false:=(hb2.frozen (b_d (w:=w1) r0)).trans f0;have f1':w2.frozen? ⟨w.heap.size+1,1,none⟩=false:=(hb2.frozen (b_d (w:=w1) r1)).trans f1;have HB2:=Lib.hid hb2;clear hb2)
  all_goals
   have hB:=a_a (HB1.out.drew) HB2.out;have hs2:w.heap.size+1 < w2.heap.size:=by have:=HB2.out.size;simp at this;omega
   go_wp2
   refine a_m ⟨w.heap.size+1,0,none⟩ rfl rfl rfl (c_E _ _ _ _ (by go_cell_look) (by go_cell_look)) ?_;have hF:Below w.heap.size w ((w2.setCell ⟨w.heap.size+1,0,none⟩ (.slice p (e_B ws i v).length d)).setCell ⟨w.heap.size+1,1,none⟩ (.slice a' n' c')):=(hB.setCell (by simp) _).setCell (by simp) _;exact ⟨_,_,_,_,_,_,rfl,c_M (fun b hb=>HQ.out b (Nat.le_trans (Nat.le_of_lt (Nat.lt_of_le_of_lt (Nat.le_add_right _ 1) hs1)) hb)) (g_p (g_p s2 _ (by simp;omega) _) _ (by simp;omega) _),h_R hF HU.out,hF⟩
 ·have HE:=N197;have H1:=Lib.hid (show c_t ws ts i v=[] by rw [c_t,if_neg he]);have H2:=Lib.hid (show c_s ws ts i=[] by rw [c_s,if_neg he]);clear he;rw [H1.out,H2.out];obtain ⟨ev,hev⟩:=mn (a_I ws ts i);have HX:=Lib.hid hev;have HE':=HE.out;rw [hev] at HE' ⊢;clear hev HE
  go_enter Tryz.func61,Tryz.ntmps61
  go_wp2_with fail
  refine (d_X _ _ n c n' c' ws ts i _ (slA _ (slA _ S1)) (slA _ (slA _ S2)) Hm.out).mono ?_;rintro e w1 ⟨rfl,hb⟩;have hb1:=N6;have r0:=N69;have r1:=N70;have f0:=N131;have f1:=N132;rw [HX.out]
  generalize b_L ws ts i=lv
  clear hb S1 S2
  go_wp2
  refine a_m ⟨w.heap.size+1,0,none⟩ rfl rfl rfl (c_E _ _ _ _ (by go_cell_look) (by go_cell_look)) ?_;exact ⟨_,_,_,_,_,_,rfl,d_a _ _,d_a _ _,by go_grown⟩
theorem j_U (a a' q:Option Addr) (n c n' c' l d:Nat) (ws ts:List Int) (D:Int) (bs:List (List (Int×Int))) (th x:Int) (w:World) (S1:Sl w a n ws) (S2:Sl w a' n' ts) (S:Bl w q l bs) (hh:j_D ws ts D bs th=true) :
  Calls Tryz.prog 101 #[.agg #[.slice a n c,.slice a' n' c',.int .i64 D,.slice q l d],.int .i64 th,.int .i64 x] w (g_L (f_m ws ts D bs th x) (c_8 ws ts D bs th x) w):=by
 have Hl:=Lib.hid S.1;obtain ⟨hm,h0,h1⟩:=d_j hh;obtain ⟨j,rfl⟩:=N120;have hjl:j < l:=by rw [←Hl.out];omega
 have i1:(0:Int)≤j:=by omega
 have i2:(j:Int) < l:=by omega
 have HE:=Lib.hid (show c_8 ws ts D bs j x=a_I ws ts x by rw [c_8,if_pos hh]);have HV:=N123;have H8:=N183;have HS8:=Lib.hid H8;have HM:=Lib.hid (a_S hm).1;clear hh hm h0 h1 H8
 go_enter Tryz.func101,Tryz.ntmps101
 go_wp2_with fail
 refine (d_X a a' n c n' c' ws ts x _ (slA _ S1) (slA _ S2) HM.out).mono ?_;rintro e w1 ⟨rfl,hb⟩;obtain ⟨ev,hev⟩:=mn (a_I ws ts x);obtain ⟨lv,hlv⟩:=mn (b_L ws ts x);have ⟨HEV,HLV⟩:=hh2 hev hlv;rw [hev,hlv];have hb1:=N6;have k3:=N59;have HB1:=Lib.hid hb1
 by_cases he:ev=0
 ·subst he;obtain ⟨b,o,y,yc,rfl,g0,hcap,hp⟩:=g_5 (blB hb1 S) hjl;obtain ⟨ps,hps⟩:=mn (bs.getD j []);have h8:=HS8.out;rw [hps] at g0 hp hcap h8;have HPS:=Lib.hid hps;obtain ⟨m,hm⟩:=mn (ps.length);rw [hm] at g0 hp hcap h8;clear hb hb1 hlv hev hps hm hcap HS8
  go_wp2_with fail
  refine (i_X y m yc ps x _ hp (by omega)).mono ?_;rintro e w3 ⟨rfl,hb⟩;have HB3:=Lib.hid (a_a HB1.out hb);exact J46
 ·have q1:=N129;have HEN:=Lib.hid he;clear hb hb1 hlv hev he k3 HS8
  go_wp2
  go_ret2
  exact c_W (by rw [HV.out,HEV.out,if_neg HEN.out]) (by rw [HE.out,HEV.out]) HB1.out
def g_z (Q:Nat→Prop) (w:World) (vs:List Value) (bs:List (List (Int×Int))):Prop:=vs.length=bs.length∧∀ i,i < bs.length→∃ q c,vs[i]?=some (.slice q (bs.getD i []).length c)∧d_A q (bs.getD i []).length c∧PlQ Q w q (bs.getD i []).length (bs.getD i [])
theorem m_H (Q:Nat→Prop) (w:World):g_z Q w [] []:=⟨rfl,fun i hi=>by simp at hi⟩
theorem s_F {Q:Nat→Prop} {w w':World} {vs:List Value} {bs:List (List (Int×Int))} (hb:Below w.heap.size w w') (h:g_z Q w vs bs):g_z Q w' vs bs:=
 ⟨h.1,fun i hi=>by obtain ⟨q,c,h1,h2,h3⟩:=h.2 i hi;exact ⟨q,c,h1,h2,u_X hb h3⟩⟩
theorem g_7 {Q:Nat→Prop} {w:World} {vs:List Value} {bs:List (List (Int×Int))} {q:Option Addr} {n c:Nat} {b:List (Int×Int)} (h:g_z Q w vs bs) (hc:d_A q n c) (hp:PlQ Q w q n b):g_z Q w (vs++[.slice q n c]) (bs++[b]):=by
 exact J47
theorem h_n {Q:Nat→Prop} {e B:Nat} {w:World} {v:Value} {n:Nat} {vs:List Value} {bs:List (List (Int×Int))} (h:w.ownsRow B e 1 v n vs) (hv:g_z Q w vs bs) (hQ:∀ b,B≤b→Q b):∃ a c,v=.slice a n c∧d_A a n c∧BlP Q w a n bs:=by
 obtain ⟨hl,h⟩:=h;have hl':bs.length=n:=by rw [←hv.1,hl,Nat.mul_one]
 rcases h with ⟨rfl,h0⟩ | ⟨g,cap,cur,rfl,hb,hg,hn,hm,hs,ht⟩
 ·exact ⟨none,0,by rw [h0],by subst h0;exact e_e,hl',.inl h0⟩
 ·unfold maxLen at hm;refine ⟨_,_,rfl,⟨hn,by omega,fun e=>by cases e⟩,hl',.inr ⟨g,0,rfl,hQ _ hb,fun i hi=>?_⟩⟩;obtain ⟨q,c,h1,h2,h3⟩:=hv.2 i hi;refine ⟨q,c,?_,h2,h3⟩;simp only [World.cell?,hg];rw [←ht,List.getElem?_take,if_pos (by omega)] at h1
  simpa using h1
theorem f_p {Q:Nat→Prop} {w:World} {a:Option Addr} {n:Nat} {bs:List (List (Int×Int))} (h:BlP Q w a n bs) {i:Nat} (hi:i < n) :
  ∃ b o q c,a=some ⟨b,o,none⟩∧w.cell? ⟨b,o+i,none⟩=some (.slice q (bs.getD i []).length c)∧d_A q (bs.getD i []).length c∧PlQ Q w q (bs.getD i []).length (bs.getD i []):=by
 obtain ⟨b,o,e,_,r⟩:=h.2.resolve_left (by omega);obtain ⟨q,c,h1,h2,h3⟩:=r i (by rw [h.1];exact hi);exact ⟨b,o,q,c,e,h1,h2,h3⟩
theorem h_J (bs:List (List (Int×Int))) (i:Int) (b:List (Int×Int)) (k:Nat):e_m bs i b (k+1)=e_m bs i b k++[k_h bs i b k]:=rfl
theorem g_G (q:Option Addr) (l d:Nat) (bs:List (List (Int×Int))) (i:Int) (p:Option Addr) (m mc:Nat) (b:List (Int×Int)) (w:World) (Q:Nat→Prop) (S:BlP Q w q l bs) (hl8:l≤8) (hp:PlQ Q w p m b) (hc:d_A p m mc) (hQ:∀ b,w.heap.size≤b→Q b) :
  Calls Tryz.prog 105 #[.slice q l d,.int .i64 i,.slice p m mc] w (fun e w'=>∃ r f,e=.returned (.slice r l f)∧BlP Q w' r l (e_m bs i b l)∧Below w.heap.size w w'):=by
 obtain ⟨i0,hi,hz0,hz1,hz2⟩:=info_parts Tryz.info55;have HI:=N44;have Hl:=Lib.hid S.1;have ⟨HC,HP⟩:=hh2 hc hp;clear hi hz0 hz1 hz2 hc hp
 go_enter Tryz.func105,Tryz.ntmps105
 go_wp2
 go_loopw [7,13] (fun v s wr=>∃ (k:Nat) (vs:List Value),k≤l∧s=.int .i64 k∧Hid (wr.ownsRow w.heap.size 55 1 v k vs)∧Hid (g_z Q w vs (e_m bs i b k))∧Below w.heap.size w wr) (fun _ s _=>l - (intOf s).toNat)
 case atStart=>exact ⟨0,[],by omega,rfl,World.ownsRow_made w #[] 0 (Nat.le_refl _) (by decide) (by simp),m_H Q w,(Below.refl _ _).alloc (Nat.le_refl _) _⟩
 case round =>
  obtain ⟨k,vs,hk,rfl,ho,hv,hb⟩:=hrel
  by_cases hlt:k < l
  ·obtain ⟨b1,o1,y,yc,rfl,g0,hcap,hp1⟩:=f_p S hlt;replace g0:=a_t hb g0;obtain ⟨x,hx⟩:=mn (bs.getD k []);rw [hx] at g0 hcap hp1;have HX:=Lib.hid hx;obtain ⟨u,hu⟩:=mn (x.length);rw [hu] at g0 hcap hp1;have ⟨HCAP,HP1,HB⟩:=hh3 hcap hp1 hb;have hsz:=hb.size;have j1:(0:Int)≤k:=by omega
   have j2:(k:Int) < l:=by omega
   clear hx hu hcap hp1 hb
   by_cases e:(k:Int)=i
   ·have q1:=N253;have HWB:=Lib.hid (show k_h bs i b k=b by rw [k_h,if_pos e]);clear e
    go_wp2_with (at_builtin;refine wpList_append_own_at _ rfl _ _ 28 rfl w.heap.size 55 i0 (.slice none 0 0) 1 24 Tryz.underlying28 HI.out.1 HI.out.2.1 HI.out.2.2.1 HI.out.2.2.2 rfl (by decide) _ _ _ rfl (ho.out.alloc _) ⟨wr.heap.size,0,none⟩ 1 1 [.slice p m mc] rfl rfl ?c1 ?c2 ?c3 ?c4 ?c5 ?_)
    case c1=>exact cell_one_new _ _ _
    case c2=>intro x hx;simp at hx;subst hx;rfl
    case c3=>unfold maxLen;omega
    case c4=>omega
    case c5=>simp;omega
    intro v' w1 hown hgrow _ _;have HOW:=Lib.hid hown;have HBB:=N237;clear hown hgrow
    go_wp2_with fail
    go_roundw
    case rel =>
     refine ⟨k+1,_,by omega,by go_num,HOW.out,?_,HB.out.trans HBB.out⟩;rw [h_J,HWB.out];exact g_7 hv.out HC.out HP.out
    case measure=>simp [intOf];omega
   ·have q1:=N251;have HWB:=Lib.hid (show k_h bs i b k=x by rw [k_h,if_neg e,HX.out]);clear e
    go_wp2_with (at_builtin;refine wpList_append_own_at _ rfl _ _ 28 rfl w.heap.size 55 i0 (.slice none 0 0) 1 24 Tryz.underlying28 HI.out.1 HI.out.2.1 HI.out.2.2.1 HI.out.2.2.2 rfl (by decide) _ _ _ rfl (ho.out.alloc _) ⟨wr.heap.size,0,none⟩ 1 1 [.slice y u yc] rfl rfl ?d1 ?d2 ?d3 ?d4 ?d5 ?_)
    case d1=>exact cell_one_new _ _ _
    case d2=>intro x hx;simp at hx;subst hx;rfl
    case d3=>unfold maxLen;omega
    case d4=>omega
    case d5=>simp;omega
    intro v' w1 hown hgrow _ _;have HOW:=Lib.hid hown;have HBB:=N237;clear hown hgrow
    go_wp2_with fail
    go_roundw
    case rel =>
     refine ⟨k+1,_,by omega,by go_num,HOW.out,?_,HB.out.trans HBB.out⟩;rw [h_J,HWB.out];exact g_7 hv.out HCAP.out HP1.out
    case measure=>simp [intOf];omega
  ·obtain rfl:k=l:=by omega
   have HB:=Lib.hid hb;clear hb
   go_wp2
   go_ret
   obtain ⟨r,f,e,-,hbl⟩:=h_n ho.out (s_F HB.out hv.out) hQ
   cases e
   exact ⟨_,_,rfl,hbl,HB.out⟩
theorem i_s {bs:List (List (Int×Int))} {j:Nat} {b:List (Int×Int)} {l:Nat} (hl:bs.length=l):e_m bs j b l=bs.set j b:=by rw [←hl,n_w]
theorem d_Y {Q Q':Nat→Prop} {w:World} {a:Option Addr} {n:Nat} {zs:List Int} (hQ:∀ b,Q b→b < w.heap.size→Q' b) (h:SlP Q w a n zs):SlP Q' w a n zs:=by
 refine ⟨h.1,?_⟩
 by_cases h0:n=0
 ·exact .inl h0
 ·obtain ⟨b,o,e,q,r⟩:=h.2.resolve_left h0;exact .inr ⟨b,o,e,hQ b q (b_d (r 0 (by have:=h.1;omega))),r⟩
theorem s_9 {Q Q':Nat→Prop} {w:World} {a:Option Addr} {n:Nat} {ps:List (Int×Int)} (hQ:∀ b,Q b→b < w.heap.size→Q' b) (h:PlQ Q w a n ps):PlQ Q' w a n ps:=by
 refine ⟨h.1,?_⟩
 by_cases h0:n=0
 ·exact .inl h0
 ·obtain ⟨b,o,e,q,r⟩:=h.2.resolve_left h0;exact .inr ⟨b,o,e,hQ b q (b_d (r 0 (by have:=h.1;omega)).1),r⟩
theorem g_b {Q Q':Nat→Prop} {w:World} {a:Option Addr} {n:Nat} {bs:List (List (Int×Int))} (hQ:∀ b,Q b→b < w.heap.size→Q' b) (h:BlP Q w a n bs):BlP Q' w a n bs:=by
 refine ⟨h.1,?_⟩
 by_cases h0:n=0
 ·exact .inl h0
 ·obtain ⟨b,o,e,q,r⟩:=h.2.resolve_left h0;obtain ⟨q1,c,h1,_⟩:=r 0 (by have:=h.1;omega);refine .inr ⟨b,o,e,hQ _ q (b_d h1),fun i hi=>?_⟩;obtain ⟨q',c',k1,k2,k3⟩:=r i hi;exact ⟨q',c',k1,k2,s_9 hQ k3⟩
def s_t (Q:Nat→Prop) (ws ts:List Int) (D:Int) (bs:List (List (Int×Int))) (x:Int) (w:World) (e:Ending) (w':World):Prop:=
 ∃ a n c a' n' c' q l d,e=.returned (.tuple #[.agg #[.slice a n c,.slice a' n' c',.int .i64 D,.slice q l d],.int .i64 x])∧SlP Q w' a n ws∧SlP Q w' a' n' ts∧BlP Q w' q l bs∧Below w.heap.size w w'
theorem m_d {Q:Nat→Prop} {A B:List Int} {z E:Int} {C:List (List (Int×Int))} (he:E≠0) {w w':World} (hb:Below w.heap.size w w'):s_t Q (okL E A) (okL E B) (okZ E z) (okL E C) E w (.returned (.tuple #[.agg #[.slice none 0 0,.slice none 0 0,.int .i64 0,.slice none 0 0],.int .i64 E])) w':=by
 rw [d_v he,d_v he,g_l he,d_v he];exact J111
theorem j_Y {Q:Nat→Prop} {A B:List Int} {z E:Int} {C:List (List (Int×Int))} (he:E=0) {w w':World} {a a' q:Option Addr} {n c n' c' l d:Nat} (s1:SlP Q w' a n A) (s2:SlP Q w' a' n' B) (s3:BlP Q w' q l C) (hb:Below w.heap.size w w') :
  s_t Q (okL E A) (okL E B) (okZ E z) (okL E C) E w (.returned (.tuple #[.agg #[.slice a n c,.slice a' n' c',.int .i64 z,.slice q l d],.int .i64 0])) w':=by
 subst he;exact ⟨_,_,_,_,_,_,_,_,_,rfl,s1,s2,s3,hb⟩
theorem h_P (Q:Nat→Prop) (a a' q:Option Addr) (n c n' c' l d:Nat) (ws ts:List Int) (D:Int) (bs:List (List (Int×Int))) (th x v:Int) (w:World) (P1:SlP Q w a n ws) (P2:SlP Q w a' n' ts) (PB:BlP Q w q l bs) (hQQ:∀ b,w.heap.size≤b→Q b) (hh:j_D ws ts D bs th=true) :
  Calls Tryz.prog 102 #[.agg #[.slice a n c,.slice a' n' c',.int .i64 D,.slice q l d],.int .i64 th,.int .i64 x,.int .i64 v] w (s_t Q (okL (b_g ws ts D bs th x) (b_O ws D x v)) (okL (b_g ws ts D bs th x) ts) (okZ (b_g ws ts D bs th x) D) (okL (b_g ws ts D bs th x) (b_J D bs th x v)) (b_g ws ts D bs th x) w):=by
 have S1:=P1.sl;have S2:=P2.sl;have S:=PB.bl;have Hl:=Lib.hid S.1;obtain ⟨hm,h0,h1⟩:=d_j hh;obtain ⟨j,rfl⟩:=N120;have hjl:j < l:=by rw [←Hl.out];omega
 have hl8:l≤8:=by rw [←Hl.out];exact (a_S hm).2.1.2
 have i1:(0:Int)≤j:=by omega
 have i2:(j:Int) < l:=by omega
 have HE:=N93;have hlD:=N238;have hD8:D≤8:=(a_S hm).2.2.1.2;have HM:=Lib.hid (a_S hm).1;clear hh hm h0 h1
 go_enter Tryz.func102,Tryz.ntmps102
 go_wp2_with fail
 have hQ:∀ b,((w.alloc (Obj.cells #[.slice a n c,.slice a' n' c',.int .i64 D,.slice q l d] 30)).alloc (Obj.cells #[.slice none 0 0,.slice none 0 0,.int .i64 0,.slice none 0 0] 30)).heap.size≤b→Q b∧b≠w.heap.size∧b≠w.heap.size+1:=fun b h=>by simp at h;exact ⟨hQQ b (by omega),by omega,by omega⟩
 refine (c_G (fun b=>Q b∧b≠w.heap.size∧b≠w.heap.size+1) a a' n c n' c' ws ts x v _ (slA _ (slA _ S1)) (t_C _ (t_C _ (d_Y (fun b q h=>⟨q,by omega,by omega⟩) P2))) hQ HM.out).mono ?_;rintro e w1 ⟨a2,n2,c2,a3,n3,c3,rfl,u1,u2,hb⟩;clear hQ;obtain ⟨ev,hev⟩:=mn (a_I ws ts x);have HEV:=Lib.hid hev;rw [hev];obtain ⟨W,hW⟩:=nm (w1.alloc (Obj.cells #[.slice a2 n2 c2,.slice a3 n3 c3] 26));have b1:=N6;have bW:Below w1.heap.size w1 W:=by rw [hW];exact (Below.refl _ _).alloc (Nat.le_refl _) _
 have X:=b_l bW (b_l hb (g_H _ (c_l (w:=w) w.heap.size rfl)));have R:=b_l bW (b_l hb (c_l (w:=w.alloc _) (w.heap.size+1) (by simp)));have m0:W.cell? ⟨w1.heap.size,0,none⟩=some (.slice a2 n2 c2):=by rw [hW];exact a_Y _ _ _ rfl rfl
 have m1:W.cell? ⟨w1.heap.size,1,none⟩=some (.slice a3 n3 c3):=by rw [hW];exact a_Y _ _ _ rfl rfl
 replace u1:=h_R bW u1;replace u2:=h_R bW u2;have hz:=d_d R;have HB1:=Lib.hid (a_a b1 bW);have HW:=Lib.hid hW;clear hb b1 bW hev hW
 go_upto_region 2 with fail
 rw [←HW.out];have HRR:=Lib.hid R;obtain ⟨⟨x0,x1,x2,x3⟩,g0,g1,g2,g3⟩:=id X;obtain ⟨⟨r0,r1,r2,r3⟩,f0,f1,f2,f3⟩:=id R
 by_cases he:ev=0
 ·subst he
  by_cases hd:D=0
  ·subst hd;have HES:=N217;have HTW:=Lib.hid (show b_O ws 0 x v=c_t ws ts x v by rw [b_O,if_pos rfl,c_t,if_pos HEV.out]);have HTT:=Lib.hid (show c_s ws ts x=ts by rw [c_s,if_pos HEV.out]);have HTB:=Lib.hid (show b_J 0 bs j x v=bs from if_pos rfl);have H4:=Lib.hid (b_A R (.slice a2 n2 c2) (.slice a3 n3 c3) (.int .i64 0) (.slice q l d));clear X R
   go_wp2
   refine a_m ⟨w.heap.size+1,0,none⟩ rfl rfl rfl (a_9 _ _ _ _ _ _ H4.out.1.1 H4.out.1.2.1 H4.out.1.2.2.1 H4.out.1.2.2.2) ?_;have hbf:=a_W (g:=w.heap.size+1) HB1.out (by omega) (.slice a2 n2 c2) (.slice a3 n3 c3) (.int .i64 0) (.slice q l d);refine j_Y HES.out ?_ ?_ ?_ hbf
   ·rw [HTW.out];exact a_n (fun b h=>h.1) (c_z _ (fun b h=>h.2.2) _ (c_z _ (fun b h=>h.2.2) _ (c_z _ (fun b h=>h.2.2) _ (c_z _ (fun b h=>h.2.2) _ u1))))
   ·rw [HTT.out] at u2;exact a_n (fun b h=>h.1) (c_z _ (fun b h=>h.2.2) _ (c_z _ (fun b h=>h.2.2) _ (c_z _ (fun b h=>h.2.2) _ (c_z _ (fun b h=>h.2.2) _ u2))))
   ·rw [HTB.out];exact n_z hbf PB
  ·have q1:(D==0)=false:=by simpa using hd
   have HDN:=Lib.hid hd;have BQ:=g_b (Q':=fun b=>Q b∧b≠w.heap.size∧b≠w.heap.size+1) (fun b q h=>⟨q,by omega,by omega⟩) PB;obtain ⟨b,o,y,yc,rfl,k0,hcap,hp⟩:=f_p BQ hjl;obtain ⟨ps,hps⟩:=mn (bs.getD j []);rw [hps] at k0 hp hcap hlD;have HPS:=Lib.hid hps;obtain ⟨m,hm⟩:=mn (ps.length);rw [hm] at k0 hp hcap hlD;have HPL:=Lib.hid hm;replace k0:=a_t HB1.out k0;have hm8:m≤8:=by omega
   have hc0:=hcap.2.2;have ⟨HC0,HBQ⟩:=hh2 hc0 BQ;clear hps hm hcap hd hc0 BQ u1 u2 m0 m1
   by_cases hf:(m:Int)=D
   ·have HES:=N155;have q2:((m:Int)==D)=true:=by simpa using hf
    have HZ:=N29;clear hf X R
    go_wp2
    refine a_m ⟨w.heap.size+1,0,none⟩ rfl rfl rfl (a_9 _ _ _ _ _ _ HZ.out.1.1 HZ.out.1.2.1 HZ.out.1.2.2.1 HZ.out.1.2.2.2) ?_;rw [HES.out];exact m_d (by decide) (a_W (g:=w.heap.size+1) HB1.out (by omega) _ _ _ _)
   ·have HES:=N156;have q2:((m:Int)==D)=false:=by simpa using hf
    have HTW:=Lib.hid (show b_O ws D x v=ws from if_neg HDN.out);have HTB:=N158;have HLN:=Lib.hid (show (ps++[(x,v)]).length=m+1 by rw [List.length_append,HPL.out];rfl);have HX:=Lib.hid X;clear hf X R
    go_wp2_with fail
    have hB0:=N106
    go_region_with (first | (go_at_call 128;refine (l_i y m yc ps x v _ (plB (by assumption) (plB HB1.out hp.pl)) (by omega) HC0.out).mono ?_;rintro e wx ⟨r,rc,rfl,hrc,u0,hbx⟩;rw [HLN.out] at hrc u0 ⊢;have x3':=a_t hbx x3;have hbx':=a_a (by assumption) hbx;have g3':=c_a hbx x3 g3;have hzx:W.heap.size≤wx.heap.size:=hbx.size) | (go_at_call 105;refine (g_G (some ⟨b,o,none⟩) l d bs j r (m+1) rc (ps++[(x,v)]) _ (fun b=>Q b∧b≠w.heap.size∧b≠w.heap.size+1) (n_z hbx' (n_z HB1.out HBQ.out)) hl8 (p_o (F:=W.heap.size) (fun z h1 h2=>⟨hQQ z (by omega),by omega,by omega⟩) u0) hrc (fun z h=>⟨hQQ z (by omega),by omega,by omega⟩)).mono ?_;rintro e wy ⟨r5,f2',rfl,u5,hby⟩;have x3'':=a_t hby x3';have g3'':=c_a hby x3' g3';have hby':=a_a hbx' hby))
    all_goals
     have X1:=h_F (b_l hby (b_l hbx' HX.out)) (.slice r5 l f2');have R1:=c_c (o:=3) (b_l hby (b_l hbx' HRR.out)) (show w.heap.size≠w.heap.size+1 by omega) (.slice r5 l f2');have hbf1:Below w.heap.size w (wy.setCell ⟨w.heap.size,3,none⟩ (.slice r5 l f2')):=(a_a HB1.out hby').setCell (Nat.le_refl _) _;have HF1:=Lib.hid hbf1;have U5:=Lib.hid (a_G (a_1 (p:=⟨w.heap.size,3,none⟩) (x:=.slice r5 l f2') (fun b h=>h.2.1)) u5);have H4:=Lib.hid (b_A R1 (.slice a n c) (.slice a' n' c') (.int .i64 D) (.slice r5 l f2'));obtain ⟨⟨z0,z1,z2,z3⟩,-⟩:=X1;obtain ⟨⟨s0,s1,s2,s3⟩,t0,t1,t2,t3⟩:=R1;clear hbf1 u0 u5 hby hby' hbx hbx' hB0 x0 x1 x2 x3 x3' x3'' g0 g1 g2 g3 g3' g3'' r0 r1 r2 r3 f0 f1 f2 f3 hrc
     go_wp2
     refine a_m ⟨w.heap.size+1,0,none⟩ rfl rfl rfl (a_9 _ _ _ _ _ _ H4.out.1.1 H4.out.1.2.1 H4.out.1.2.2.1 H4.out.1.2.2.2) ?_;have hbf:=a_W (g:=w.heap.size+1) HF1.out (by omega) (.slice a n c) (.slice a' n' c') (.int .i64 D) (.slice r5 l f2');refine j_Y HES.out ?_ ?_ ?_ hbf
     ·rw [HTW.out];exact h_R hbf P1
     ·exact h_R hbf P2
     ·rw [HTB.out,←i_s Hl.out];exact J73
 ·have q1:=N129;have HEN:=Lib.hid he;have HES:=Lib.hid (show b_g ws ts D bs j x=ev by rw [HE.out,HEV.out,if_neg he]);have HZ:=N29;clear he X R hlD hD8
  go_wp2
  refine a_m ⟨w.heap.size+1,0,none⟩ rfl rfl rfl (a_9 _ _ _ _ _ _ HZ.out.1.1 HZ.out.1.2.1 HZ.out.1.2.2.1 HZ.out.1.2.2.2) ?_;rw [HES.out];exact m_d HEN.out (a_W (g:=w.heap.size+1) HB1.out (by omega) _ _ _ _)
theorem t_2 {Q:Nat→Prop} {w:World} {a:Option Addr} {n:Nat} {bs:List (List (Int×Int))} (h:BlP Q w a n bs):BlP (fun b=>Q b∧b < w.heap.size) w a n bs:=by
 refine ⟨h.1,?_⟩
 by_cases h0:n=0
 ·exact .inl h0
 ·obtain ⟨b,o,e,hq,r⟩:=h.2.resolve_left h0;obtain ⟨q,c,h1,_⟩:=r 0 (by have:=h.1;omega);refine .inr ⟨b,o,e,⟨hq,b_d h1⟩,fun i hi=>?_⟩;obtain ⟨q',c',k1,k2,k3⟩:=r i hi;refine ⟨q',c',k1,k2,k3.1,?_⟩
  by_cases hz:(bs.getD i []).length=0
  ·exact .inl hz
  ·obtain ⟨b2,o2,e2,hq2,r2⟩:=k3.2.resolve_left hz;exact .inr ⟨b2,o2,e2,⟨hq2,b_d (r2 0 (by omega)).1⟩,r2⟩
theorem j_S (a a' q:Option Addr) (n c n' c' l d:Nat) (D:Int) (bs:List (List (Int×Int))) (j:Nat) (w:World) (Q:Nat→Prop) (S:BlP Q w q l bs) (hjl:j < l) (hl8:l≤8) (hb8:(bs.getD j []).length≤8) (hQ:∀ b,w.heap.size≤b→Q b) :
  Calls Tryz.prog 60 #[.agg #[.slice a n c,.slice a' n' c',.int .i64 D,.slice q l d],.int .i64 j] w (fun e w'=>∃ r f,e=.returned (.agg #[.slice a n c,.slice a' n' c',.int .i64 D,.slice r l f])∧BlP Q w' r l (bs.set j (e_K (bs.getD j [])))∧Below w.heap.size w w'):=by
 have Hl:=Lib.hid S.1;have i1:(0:Int)≤j:=by omega
 have i2:(j:Int) < l:=by omega
 have BQ:=a_H (Q':=fun b=>Q b∧b≠w.heap.size∧b≠w.heap.size+1) (fun b h=>⟨h.1,by omega,by omega⟩) (t_2 S);obtain ⟨W,hW⟩:=nm ((w.alloc (Obj.cells #[.slice a n c,.slice a' n' c',.int .i64 D,.slice q l d] 30)).alloc (Obj.cells #[.slice none 0 0,.slice none 0 0,.int .i64 0,.slice none 0 0] 30));have b0:=N2;have X:=N89;have R:=N81;replace BQ:=n_z b0 BQ;have hz:=d_d R;obtain ⟨b,o,y,yc,rfl,k0,hcap,hp⟩:=f_p BQ hjl;obtain ⟨ps,hps⟩:=mn (bs.getD j []);rw [hps] at k0 hp hcap hb8;have HPS:=Lib.hid hps;obtain ⟨m,hm⟩:=mn (ps.length);rw [hm] at k0 hp hcap hb8;have ⟨HQ,HBQ,HX,HRR,HB,HW,HP⟩:=hh7 hQ BQ X R b0 hW hp;clear hps hm hcap hQ BQ S b0 hW hp
 go_enter Tryz.func60,Tryz.ntmps60
 go_upto_region 1 with fail
 rw [←HW.out];obtain ⟨⟨x0,x1,x2,x3⟩,g0,g1,g2,g3⟩:=X;clear R;have hB0:=N106
 go_region_with (first | (go_at_call 106;refine (l_j y m yc ps _ (plB (by assumption) HP.out.pl) (by omega)).mono ?_;rintro e wx ⟨r,rc,rfl,hrc,u0,hbx⟩;have x3':=a_t hbx x3;have hbx':=a_a (by assumption) hbx;have g3':=c_a hbx x3 g3;have hzx:W.heap.size≤wx.heap.size:=hbx.size) | (go_at_call 105;refine (g_G (some ⟨b,o,none⟩) l d bs j r (e_K ps).length rc (e_K ps) _ (fun b=>Q b∧b≠w.heap.size∧b≠w.heap.size+1) (n_z hbx' HBQ.out) hl8 (p_o (F:=W.heap.size) (fun z h1 h2=>⟨HQ.out z (by omega),by omega,by omega⟩) u0) hrc (fun z h=>⟨HQ.out z (by omega),by omega,by omega⟩)).mono ?_;rintro e wy ⟨r5,f5,rfl,u5,hby⟩;have x3'':=a_t hby x3';have g3'':=c_a hby x3' g3';have hby':=a_a hbx' hby))
 all_goals
  have X1:=h_F (b_l hby (b_l hbx' HX.out)) (.slice r5 l f5);have R1:=c_c (o:=3) (b_l hby (b_l hbx' HRR.out)) (show w.heap.size≠w.heap.size+1 by omega) (.slice r5 l f5);have hbf1:Below w.heap.size w (wy.setCell ⟨w.heap.size,3,none⟩ (.slice r5 l f5)):=(a_a HB.out hby').setCell (Nat.le_refl _) _;have HF1:=Lib.hid hbf1;have U5:=Lib.hid (a_G (a_1 (p:=⟨w.heap.size,3,none⟩) (x:=.slice r5 l f5) (fun b h=>h.2.1)) u5);have H4:=Lib.hid (b_A R1 (.slice a n c) (.slice a' n' c') (.int .i64 D) (.slice r5 l f5));obtain ⟨⟨z0,z1,z2,z3⟩,-⟩:=X1;obtain ⟨⟨s0,s1,s2,s3⟩,t0,t1,t2,t3⟩:=R1;clear hbf1 u0 u5 hby hby' hbx hbx' hB0 x0 x1 x2 x3 x3' x3'' g0 g1 g2 g3 g3' g3'' hrc
  go_wp2
  refine a_X ⟨w.heap.size+1,0,none⟩ rfl rfl rfl (a_9 _ _ _ _ _ _ H4.out.1.1 H4.out.1.2.1 H4.out.1.2.2.1 H4.out.1.2.2.2) ?_;have hbf:=a_W (g:=w.heap.size+1) HF1.out (by omega) (.slice a n c) (.slice a' n' c') (.int .i64 D) (.slice r5 l f5);refine ⟨_,_,rfl,?_,hbf⟩;rw [HPS.out,←i_s Hl.out];exact J73
theorem f_k {w:World} {g:Nat} {x y z u:Value} (h:e_d w g x y z u) (x' y':Value):e_d ((w.setCell ⟨g,0,none⟩ x').setCell ⟨g,1,none⟩ y') g x' y' z u:=by
 obtain ⟨⟨a,b,c,d⟩,e,f,i,j⟩:=h;have ne:=N195;refine ⟨⟨s_d _ _ (by rw [a];rfl),s_e _ _ (by rw [b];rfl),?_,?_⟩,?_,?_,?_,?_⟩
 ·rw [World.cell?_setCell_other _ _ _ _ (ne _ _ (by decide)),World.cell?_setCell_other _ _ _ _ (ne _ _ (by decide))];exact c
 ·rw [World.cell?_setCell_other _ _ _ _ (ne _ _ (by decide)),World.cell?_setCell_other _ _ _ _ (ne _ _ (by decide))];exact d
 all_goals (rw [World.frozen?_setCell,World.frozen?_setCell];assumption)
theorem f_f (a:Addr) (fn:Fn) (xs ys:Array Value) (m:Mode) (P:Program) (w:World):(store a (.func fn xs ys) m).run P w=stored P w a (.func fn xs ys) m:=run_store P w a _ m rfl
attribute [local go_sem] f_f
theorem q_W (w:World) (b:Nat) (x y z:Value) (k0:w.cell? ⟨b,0,none⟩=some x) (k1:w.cell? ⟨b,1,none⟩=some y) (k2:w.cell? ⟨b,2,none⟩=some z):(loadVar 195 ⟨b,0,none⟩).run Tryz.prog w=.ok (.agg #[x,y,z]) w:=by
 simp [go_sem,k0,k1,k2]
theorem s_6 (w:World):Calls Tryz.prog 163 #[] w fun e w'=>e=.returned (.agg #[.func (.func 169) #[] #[],.func (.func 170) #[] #[],.func (.func 171) #[] #[]])∧Below w.heap.size w w':=by
 go_enter Tryz.func163,Tryz.ntmps163
 go_wp2
 refine a_X ⟨w.heap.size,0,none⟩ rfl rfl rfl (q_W _ _ _ _ _ (by simp;rfl) (by simp;rfl) (by simp;rfl)) ?_;exact ⟨rfl,by go_grown⟩
def f_8 (v:Int) (w:World) (e:Ending) (w':World):Prop:=e=.returned (.int .i64 v)∧Below w.heap.size w w'
theorem e_9 {v z:Int} {w w':World} (h:v=z) (hb:Below w.heap.size w w'):f_8 v w (.returned (.int .i64 z)) w':=by subst h;exact ⟨rfl,hb⟩
theorem p_e (word a b:Int) (w:World):Calls Tryz.prog 169 #[.int .i64 word,.int .i64 a,.int .i64 b] w (f_8 (d_D 0 word a b) w):=by
 by_cases h:word=a
 ·have HV:=Lib.hid (show d_D 0 word a b=b by rw [d_D,if_pos rfl,if_pos h]);have q:(word==a)=true:=by simpa using h
  exact J100
 ·have HV:=Lib.hid (show d_D 0 word a b=word by rw [d_D,if_pos rfl,if_neg h]);have q:(word==a)=false:=by simpa using h
  exact J100
theorem m_8 (word a b:Int) (w:World):Calls Tryz.prog 170 #[.int .i64 word,.int .i64 a,.int .i64 b] w (f_8 (d_D 1 word a b) w):=by
 have HV:=Lib.hid (show d_D 1 word a b=a by rw [d_D,if_neg (by decide),if_pos rfl])
 go_enter Tryz.func170,Tryz.ntmps170
 go_wp2
 go_ret
 exact e_9 HV.out (Below.refl _ _)
theorem p_d (word a b:Int) (w:World):Calls Tryz.prog 171 #[.int .i64 word,.int .i64 a,.int .i64 b] w (f_8 (d_D 2 word a b) w):=by
 have HV:=Lib.hid (show d_D 2 word a b=IntKind.i64.wrap (word+a) by rw [d_D,if_neg (by decide),if_neg (by decide)])
 go_enter Tryz.func171,Tryz.ntmps171
 go_wp2
 go_ret
 exact e_9 (HV.out.trans (IntWalk.i64_left _)) (Below.refl _ _)
def s_r (Q:Nat→Prop) (ws ts:List Int) (D:Int) (bs:List (List (Int×Int))) (v x:Int) (w:World) (e:Ending) (w':World):Prop:=
 ∃ a n c a' n' c' q l d,e=.returned (.tuple #[.agg #[.slice a n c,.slice a' n' c',.int .i64 D,.slice q l d],.int .i64 v,.int .i64 x])∧SlP Q w' a n ws∧SlP Q w' a' n' ts∧BlP Q w' q l bs∧Below w.heap.size w w'
theorem m_c {Q:Nat→Prop} {A B:List Int} {z u E:Int} {C:List (List (Int×Int))} (he:E≠0) {w w':World} (hb:Below w.heap.size w w'):s_r Q (okL E A) (okL E B) (okZ E z) (okL E C) (okZ E u) E w (.returned (.tuple #[.agg #[.slice none 0 0,.slice none 0 0,.int .i64 0,.slice none 0 0],.int .i64 0,.int .i64 E])) w':=by
 rw [d_v he,d_v he,g_l he,d_v he,g_l he];exact J111
theorem f_X {Q:Nat→Prop} {A B:List Int} {z u E:Int} {C:List (List (Int×Int))} (he:E=0) {w w':World} {a a' q:Option Addr} {n c n' c' l d:Nat} (s1:SlP Q w' a n A) (s2:SlP Q w' a' n' B) (s3:BlP Q w' q l C) (hb:Below w.heap.size w w') :
  s_r Q (okL E A) (okL E B) (okZ E z) (okL E C) (okZ E u) E w (.returned (.tuple #[.agg #[.slice a n c,.slice a' n' c',.int .i64 z,.slice q l d],.int .i64 u,.int .i64 0])) w':=by
 subst he;exact ⟨_,_,_,_,_,_,_,_,_,rfl,s1,s2,s3,hb⟩
theorem h_q (Q:Nat→Prop) (a a' q:Option Addr) (n c n' c' l d:Nat) (ws ts:List Int) (D:Int) (bs:List (List (Int×Int))) (th k x y z:Int) (w:World) (P1:SlP Q w a n ws) (P2:SlP Q w a' n' ts) (PB:BlP Q w q l bs) (hQQ:∀ b,w.heap.size≤b→Q b) (hh:j_D ws ts D bs th=true) (hk:k_X k=true) :
  Calls Tryz.prog 103 #[.agg #[.slice a n c,.slice a' n' c',.int .i64 D,.slice q l d],.int .i64 th,.int .i64 k,.int .i64 x,.int .i64 y,.int .i64 z] w (s_r Q (okL (b_y ws ts D bs th k x) (b_z ws ts k x y z)) (okL (b_y ws ts D bs th k x) ts) (okZ (b_y ws ts D bs th k x) D) (okL (b_y ws ts D bs th k x) bs) (okZ (b_y ws ts D bs th k x) (b_L ws ts x)) (b_y ws ts D bs th k x) w):=by
 have S1:=P1.sl;have S2:=P2.sl;have S:=PB.bl;have Hl:=Lib.hid S.1;obtain ⟨hm,h0,h1⟩:=d_j hh;obtain ⟨j,rfl⟩:=N120;have hjl:j < l:=by rw [←Hl.out];omega
 have i1:(0:Int)≤j:=by omega
 have i2:(j:Int) < l:=by omega
 obtain ⟨ps,hps⟩:=mn (bs.getD j []);have HE:=Lib.hid (show b_y ws ts D bs j k x=if ps=[] then a_I ws ts x else 9 by rw [b_y,if_pos ⟨hh,hk⟩,d_Q,Int.toNat_natCast,hps]);have HM:=Lib.hid (a_S hm).1;have hkk:k=0∨k=1∨k=2:=by simp only [k_X,decide_eq_true_eq] at hk;omega
 obtain ⟨W,hW⟩:=nm ((w.alloc (Obj.cells #[.slice a n c,.slice a' n' c',.int .i64 D,.slice q l d] 30)).alloc (Obj.cells #[.slice none 0 0,.slice none 0 0,.int .i64 0,.slice none 0 0] 30));have b0:=N2;have X:=N89;have R:=N81;have T1:=slB b0 S1;have T2:=h_R b0 (d_Y (Q':=fun b=>Q b∧b≠w.heap.size∧b≠w.heap.size+1) (fun b q h=>⟨q,by omega,by omega⟩) P2);have hz:=d_d R;obtain ⟨b,o,p,pc,rfl,k0,hcap,hp⟩:=g_5 S hjl;replace k0:=a_t b0 k0;rw [hps] at k0;obtain ⟨m,hmm⟩:=mn (ps.length);rw [hmm] at k0;have ⟨HPL,HB,HW,HRR,HX⟩:=hh5 hmm b0 hW R X;clear hps hmm hcap hp b0 hW hh hm h0 h1 hk
 go_enter Tryz.func103,Tryz.ntmps103
 go_upto_region 1 with fail
 rw [←HW.out];obtain ⟨⟨x0,x1,x2,x3⟩,-⟩:=id X;obtain ⟨⟨r0,r1,r2,r3⟩,f0,f1,f2,f3⟩:=id R
 by_cases hne:ps=[]
 ·have HNE:=Lib.hid hne;obtain rfl:0=m:=by rw [←HPL.out,hne];rfl
  clear hne
  go_wp2_with fail
  refine (d_X a a' n c n' c' ws ts x _ T1 T2.sl HM.out).mono ?_;rintro e w1 ⟨rfl,hb⟩;obtain ⟨ev,hev⟩:=mn (a_I ws ts x);obtain ⟨lv,hlv⟩:=mn (b_L ws ts x);have ⟨HEV,HLV⟩:=hh2 hev hlv;rw [hev,hlv];replace R:=b_l hb R;replace X:=b_l hb X;replace T1:=slB hb T1;replace T2:=h_R hb T2;have HB1:=Lib.hid (a_a HB.out hb);have hz1:W.heap.size≤w1.heap.size:=hb.size;have HES:=Lib.hid (show b_y ws ts D bs j k x=ev by rw [HE.out,if_pos HNE.out,hev]);clear hb hev hlv x0 x1 x2 x3 r0 r1 r2 r3 f0 f1 f2 f3 k0
  by_cases he:ev=0
  ·subst he;obtain ⟨⟨x0,x1,x2,x3⟩,g0,g1,g2,g3⟩:=id X;have ⟨HX1,HR1⟩:=hh2 X R;clear X R;obtain ⟨nv,hnv⟩:=mn (d_D k lv y z);have HNV:=Lib.hid hnv
   have hcases:(k=0∧lv=y∧nv=z)∨(k=0∧lv≠y∧nv=lv)∨(k=1∧nv=y)∨(k=2∧nv=wrap64 (lv+y)):=by
    rcases hkk with rfl | rfl | rfl
    ·rw [d_D,if_pos rfl] at hnv
     by_cases e:lv=y
     ·rw [if_pos e] at hnv;exact .inl ⟨rfl,e,hnv.symm⟩
     ·rw [if_neg e] at hnv;exact .inr (.inl ⟨rfl,e,hnv.symm⟩)
    ·rw [d_D,if_neg (by decide),if_pos rfl] at hnv;exact .inr (.inr (.inl ⟨rfl,hnv.symm⟩))
    ·rw [d_D,if_neg (by decide),if_neg (by decide)] at hnv;exact .inr (.inr (.inr ⟨rfl,hnv.symm.trans (IntWalk.i64_left _)⟩))
   clear hkk hnv;have hQ:∀ b,w1.heap.size≤b→Q b∧b≠w.heap.size∧b≠w.heap.size+1:=fun b h=>⟨hQQ b (by omega),by omega,by omega⟩
   have HQ:=Lib.hid hQ;clear hQ
   rcases hcases with ⟨rfl,rfl,rfl⟩ | ⟨rfl,hw,rfl⟩ | ⟨rfl,rfl⟩ | ⟨rfl,hw⟩
   ·have q1:(lv==lv)=true:=by simp
    go_wp2_with fail
    have h0:=N121;with_reducible refine h0.mono ?_
    clear h0;rw [HEV.out];rintro e w3 ⟨a2,n2,c2,a3,n3,c3,rfl,u1,u2,hb3⟩;have HTS:=Lib.hid (show c_t ws ts x nv=b_z ws ts 0 x lv nv by rw [c_t,if_pos HEV.out,b_z,HLV.out,HNV.out]);exact J0
   ·have q1:(nv==y)=false:=by simpa using hw
    clear hw
    go_wp2_with fail
    have h0:=N121;with_reducible refine h0.mono ?_
    clear h0;rw [HEV.out];rintro e w3 ⟨a2,n2,c2,a3,n3,c3,rfl,u1,u2,hb3⟩;have HTS:=Lib.hid (show c_t ws ts x nv=b_z ws ts 0 x y z by rw [c_t,if_pos HEV.out,b_z,HLV.out,HNV.out]);exact J0
   ·go_wp2_with fail
    have h0:=N121;with_reducible refine h0.mono ?_
    clear h0;rw [HEV.out];rintro e w3 ⟨a2,n2,c2,a3,n3,c3,rfl,u1,u2,hb3⟩;have HTS:=Lib.hid (show c_t ws ts x nv=b_z ws ts 1 x nv z by rw [c_t,if_pos HEV.out,b_z,HLV.out,HNV.out]);exact J0
   ·subst hw
    go_wp2_with fail
    have h0:=c_G (fun b=>Q b∧b≠w.heap.size∧b≠w.heap.size+1) a a' n c n' c' ws ts x (wrap64 (lv+y)) w1 T1 T2 HQ.out HM.out;with_reducible refine h0.mono ?_
    clear h0;rw [HEV.out];rintro e w3 ⟨a2,n2,c2,a3,n3,c3,rfl,u1,u2,hb3⟩;have HTS:=Lib.hid (show c_t ws ts x (wrap64 (lv+y))=b_z ws ts 2 x y z by rw [c_t,if_pos HEV.out,b_z,HLV.out,HNV.out]);exact J0
  ·have q1:=N129;have HEN:=Lib.hid he;have HZ:=N29;obtain ⟨⟨s0,s1,s2,s3⟩,t0,t1,t2,t3⟩:=R;clear he X hkk
   go_wp2
   refine b_P ⟨w.heap.size+1,0,none⟩ rfl rfl rfl (a_9 _ _ _ _ _ _ HZ.out.1.1 HZ.out.1.2.1 HZ.out.1.2.2.1 HZ.out.1.2.2.2) ?_;rw [HES.out];exact m_c HEN.out (a_W (g:=w.heap.size+1) HB1.out (by omega) _ _ _ _)
 ·have HES:=Lib.hid (show b_y ws ts D bs j k x=9 by rw [HE.out,if_neg hne]);have hm0:0 < m:=by rw [←HPL.out];exact List.length_pos_iff.2 hne
  have HZ:=N29;clear hne X R hkk
  go_wp2
  refine b_P ⟨w.heap.size+1,0,none⟩ rfl rfl rfl (a_9 _ _ _ _ _ _ HZ.out.1.1 HZ.out.1.2.1 HZ.out.1.2.2.1 HZ.out.1.2.2.2) ?_;rw [HES.out];exact m_c (by decide) (a_W (g:=w.heap.size+1) HB.out (by omega) _ _ _ _)
end Go.Proofs.YtogdpojnbgeknaaGreatDoor
namespace Go.Proofs.YtogdpojnbgeknaaGreatDoor
open Go.ChangeShapes Go.WideShapes Go.ChangeAt Go.RowKit
open Gen
theorem d_w {Q:Nat→Prop} {w:World} {fa la:Option Addr} {fn fc ln lc:Nat} {t:Thr} (h:ThQ Q w fa fn fc la ln lc t):ThQ (fun b=>Q b∧b < w.heap.size) w fa fn fc la ln lc t:=⟨h.fcap,c_S h.fs,h.lcap,c_S h.lf⟩
abbrev thV (t:Thr) (a:Option Addr) (n c:Nat) (b:Option Addr) (m d:Nat):Value:=.agg (thC t a n c b m d).toArray
def repTh:Rep Thr:={
 R:=fun Q w cs t=>∃ fa fc la lc,cs=thC t fa t.fs.length fc la t.lf.length lc∧ThQ Q w fa t.fs.length fc la t.lf.length lc t
 k:=13
 pos:=by decide
 len:=fun h=>by obtain ⟨_,_,_,_,h,_⟩:=h;rw [h];rfl
 keep:=fun hk h=>by obtain ⟨fa,fc,la,lc,h,h2⟩:=h;exact ⟨fa,fc,la,lc,h,a_v hk h2⟩
 mono:=fun hQ h=>by obtain ⟨fa,fc,la,lc,h,h2⟩:=h;exact ⟨fa,fc,la,lc,h,b_t hQ h2⟩
 und:=fun h=>by obtain ⟨fa,fc,la,lc,h,h2⟩:=h;exact ⟨fa,fc,la,lc,h,d_w h2⟩ }
def j_E (y:Ev):List Value:=[.int .i64 y.1,.int .i64 y.2.1,.int .i64 y.2.2.1,.int .i64 y.2.2.2.1,.int .i64 y.2.2.2.2.1,.int .i64 y.2.2.2.2.2]
def repEv:Rep Ev:=r_p 6 (by decide) j_E (fun _=>rfl)
structure Sp where
 a:Option Addr
 n:Nat
 c:Nat
abbrev Sp.v (s:Sp):Value:=.slice s.a s.n s.c
def Sp.ok (s:Sp):Prop:=Cap s.a s.n s.c
def zSp:Sp:=⟨none,0,0⟩
structure WoL where
 co:Sp
 ws:Sp
 ts:Sp
 bs:Sp
 th:Sp
 ev:Sp
def u_T:WoL:=⟨zSp,zSp,zSp,zSp,zSp,zSp⟩
abbrev woV (L:WoL) (D:Int):Value:=.agg #[.slice L.co.a L.co.n L.co.c,.slice L.ws.a L.ws.n L.ws.c,.slice L.ts.a L.ts.n L.ts.c,.int .i64 D,.slice L.bs.a L.bs.n L.bs.c,.slice L.th.a L.th.n L.th.c,.slice L.ev.a L.ev.n L.ev.c]
structure RWo (Q:Nat→Prop) (w:World) (L:WoL) (X:Wo):Prop where
 co:Vs repIns Q w L.co.a L.co.n X.code
 ws:SlP Q w L.ws.a L.ws.n X.ws
 ts:SlP Q w L.ts.a L.ts.n X.ts
 bs:BlP Q w L.bs.a L.bs.n X.bs
 th:Vs repTh Q w L.th.a L.th.n X.th
 ev:Vs repEv Q w L.ev.a L.ev.n X.ev
 cco:L.co.ok
 cth:L.th.ok
 cev:L.ev.ok
theorem a_z {Q:Nat→Prop} {w w':World} {L:WoL} {X:Wo} (hk:Kept Q w w') (h:RWo Q w L X):RWo Q w' L X:=
 ⟨a_B hk h.co,a_r hk h.ws,a_r hk h.ts,a_G hk h.bs,a_B hk h.th,a_B hk h.ev,h.cco,h.cth,h.cev⟩
theorem a_D {Q Q':Nat→Prop} {w:World} {L:WoL} {X:Wo} (hQ:∀ b,Q b→Q' b) (h:RWo Q w L X):RWo Q' w L X:=
 ⟨b_e hQ h.co,a_n hQ h.ws,a_n hQ h.ts,a_H hQ h.bs,b_e hQ h.th,b_e hQ h.ev,h.cco,h.cth,h.cev⟩
theorem c_h {Q:Nat→Prop} {w:World} {L:WoL} {X:Wo} (h:RWo Q w L X):RWo (fun b=>Q b∧b < w.heap.size) w L X:=
 ⟨c_S h.co,d_Y (fun _ q h=>⟨q,h⟩) h.ws,d_Y (fun _ q h=>⟨q,h⟩) h.ts,g_b (fun _ q h=>⟨q,h⟩) h.bs,c_S h.th,c_S h.ev,h.cco,h.cth,h.cev⟩
theorem b_q {Q:Nat→Prop} {w w':World} {L:WoL} {X:Wo} (hb:Below w.heap.size w w') (h:RWo Q w L X):RWo Q w' L X:=a_z (a_C hb) h
theorem c_L {Q:Nat→Prop} {w:World} {L:WoL} {X:Wo} (h:RWo Q w L X):RWo Any w L X:=a_D (fun _ _=>trivial) h
theorem m_h {Q:Nat→Prop} {w:World}:RWo Q w u_T zWo:=
 ⟨d_h,d_a _ _,d_a _ _,g_4 _ _,d_h,d_h,b_W,b_W,b_W⟩
theorem c_3 {Q:Nat→Prop} {w:World} {ta:Option Addr} {tn:Nat} {ts:List Thr} (S:Vs repTh Q w ta tn ts) {k:Nat} (hk:k < tn) :
  ∃ b o t fa fc la lc,ta=some ⟨b,o,none⟩∧ts[k]?=some t∧Q b∧ThQ Q w fa t.fs.length fc la t.lf.length lc t∧∀ j v,(thC t fa t.fs.length fc la t.lf.length lc)[j]?=some v→w.cell? ⟨b,o+k*13+j,none⟩=some v:=by
 obtain ⟨b,o,t,e,ht,hq,cs,⟨fa,fc,la,lc,rfl,h2⟩,hc⟩:=j_a S hk;exact ⟨b,o,t,fa,fc,la,lc,e,ht,hq,h2,hc⟩
end Go.Proofs.YtogdpojnbgeknaaGreatDoor
