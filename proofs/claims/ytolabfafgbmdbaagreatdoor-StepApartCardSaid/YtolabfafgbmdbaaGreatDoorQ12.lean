import Derived.Test.YtolabfafgbmdbaaGreatDoorQ10
import Derived.Test.YtolabfafgbmdbaaGreatDoorQ11
import Derived.Test.YtolabfafgbmdbaaGreatDoorQ0
import Derived.Deep.RegionHeld3
import Derived.Deep.DeepCutAuto
set_option maxRecDepth 100000
set_option maxHeartbeats 16000000
namespace Go.Proofs.YtolabfafgbmdbaaGreatDoor
open Go.ChangeShapes Go.WideShapes Go.ChangeAt Go.RowKit
theorem f_2 (a a' q:Option Addr) (n c n' c' l d:Nat) (D x y:Int) (w:World) :
  Calls Tryz.prog 110 #[.agg #[.slice a n c,.slice a' n' c',.int .i64 D,.slice q l d],.agg #[.int .i64 x,.int .i64 y]] w (a_1 (!(inP n (x,y))) w):=by
 have H:=Lib.hid (show inP n (x,y)=decide (0≤x∧x < n) from rfl)
 by_cases h1:0≤x
 ·have q1:decide (x < 0)=false:=by simp;omega
  go_enter Tryz.func110,Tryz.ntmps110
  go_wp2
  go_ret
  exact a_i (by rw [H.out,Bool.eq_iff_iff];simp;omega) (by go_grown)
 ·have q1:decide (x < 0)=true:=by simp;omega
  go_enter Tryz.func110,Tryz.ntmps110
  go_wp2
  go_ret
  exact a_i (by rw [H.out];simp [h1]) (by go_grown)
def n_F (t:Bool) (w:World) (e:Ending) (w':World):Prop:=∃ i:Int,e=.returned (.int .i64 i)∧decide (0≤i)=t∧Below w.heap.size w w'
theorem i_b {t:Bool} {w w':World} {i:Int} (h:decide (0≤i)=t) (hb:Below w.heap.size w w'):n_F t w (.returned (.int .i64 i)) w':=⟨i,rfl,h,hb⟩
theorem s_r {N:Nat} {b:List (Int×Int)} {k:Nat} (hk:k < b.length) (h:inP N (b.getD k (0,0))=false):b.all (inP N)=false:=by
 have e:b.getD k (0,0)=b[k]:=by simp [hk]
 rw [e] at h;exact List.all_eq_false.2 ⟨b[k],List.getElem_mem hk,by rw [h];decide⟩
theorem q_h {N:Nat} {b:List (Int×Int)} (h:h_V N b b.length):b.all (inP N)=true:=by
 simp only [List.all_eq_true];intro p hp;obtain ⟨i,hi,rfl⟩:=List.mem_iff_getElem.1 hp;have:=h i hi
 simpa [hi] using this
theorem k_O (p:Option Addr) (m mc:Nat) (ps:List (Int×Int)) (a a' q:Option Addr) (n c n' c' l d:Nat) (D:Int) (w:World) (S:Pl w p m ps) (hm:m≤9223372036854775807) :
  Calls Tryz.prog 129 #[.slice p m mc,.func (.func 110) #[.agg #[.slice a n c,.slice a' n' c',.int .i64 D,.slice q l d]] #[]] w (n_F (!(ps.all (inP n))) w):=by
 have Hn:=Lib.hid S.1
 go_enter Tryz.func129,Tryz.ntmps129
 go_wp2
 go_loopw [8] (fun s wr=>∃ k:Nat,k≤m∧s=.int .i64 k∧Hid (h_V n ps k)∧Below w.heap.size w wr) (fun s _=>m - (intOf s).toNat)
 case atStart=>exact ⟨0,by omega,rfl,by intro j hj;omega,Below.refl _ _⟩
 case round =>
  obtain ⟨k,hk,rfl,hs,hb⟩:=hrel
  by_cases hlt:k < m
  ·obtain ⟨b,o,rfl,R⟩:=N180;have g:=R k (by rw [Hn.out];exact hlt);have g1:=a_t hb g.1;have g2:=a_t hb g.2;obtain ⟨x,hx⟩:=mn (ps.getD k (0,0));rw [hx] at g1 g2;obtain ⟨x1,x2⟩:=x;have ⟨HX,HB⟩:=hh2 hx hb;dsimp only at g1 g2;have i1:(0:Int)≤k:=by omega
   have i2:(k:Int) < m:=by omega
   clear g hx hb
   cases hin:inP n (x1,x2) with
   | true =>
    have HS:=Lib.hid (h_m hs.out (by rw [HX.out];exact hin));have HI:=Lib.hid hin;clear hin
    go_wp2_with (go_at_call 110;refine (f_2 a a' q n c n' c' l d D x1 x2 _).mono ?_;rw [HI.out];rintro e w1 ⟨rfl,hb1⟩;have HB1:=Lib.hid (a_a HB.out hb1);clear hb1)
    go_roundw
    case rel=>exact ⟨k+1,by omega,by go_num,HS.out,HB1.out⟩
    case measure=>simp [intOf];omega
   | false =>
    have HS:=Lib.hid (s_r (N:=n) (b:=ps) (k:=k) (by rw [Hn.out];exact hlt) (by rw [HX.out];exact hin));have HI:=Lib.hid hin;clear hin
    go_wp2_with (go_at_call 110;refine (f_2 a a' q n c n' c' l d D x1 x2 _).mono ?_;rw [HI.out];rintro e w1 ⟨rfl,hb1⟩;have HB1:=Lib.hid (a_a HB.out hb1);clear hb1)
    go_ret
    exact i_b (by rw [HS.out];simp) HB1.out
  ·obtain rfl:k=m:=by omega
   have HS:=Lib.hid (q_h (N:=n) (b:=ps) (by rw [Hn.out];exact hs.out));have HB:=Lib.hid hb;clear hb
   go_wp2
   go_ret
   exact i_b (by rw [HS.out];rfl) HB.out
theorem e_B (p:Option Addr) (m mc:Nat) (ps:List (Int×Int)) (a a' q:Option Addr) (n c n' c' l d:Nat) (D:Int) (w:World) (S:Pl w p m ps) (hm:m≤9223372036854775807) :
  Calls Tryz.prog 109 #[.slice p m mc,.func (.func 110) #[.agg #[.slice a n c,.slice a' n' c',.int .i64 D,.slice q l d]] #[]] w (a_1 (!(ps.all (inP n))) w):=by
 go_enter Tryz.func109,Tryz.ntmps109
 go_wp2_with fail
 refine (k_O p m mc ps a a' q n c n' c' l d D _ S hm).mono ?_;rintro e w1 ⟨i,rfl,ht,hb⟩;have ⟨HT,HB⟩:=hh2 ht hb;clear ht hb
 go_wp2
 go_ret
 exact a_i HT.out.symm HB.out
theorem e_4 (a a' q:Option Addr) (n c n' c' l d:Nat) (ws ts:List Int) (D:Int) (bs:List (List (Int×Int))) (w:World) (S1:Sl w a n ws) (S2:Sl w a' n' ts) (S:Bl w q l bs) :
  Calls Tryz.prog 73 #[.agg #[.slice a n c,.slice a' n' c',.int .i64 D,.slice q l d]] w (a_1 (d_q ws ts D bs) w):=by
 have Hn:=Lib.hid S1.1;have Hl:=Lib.hid S.1;have hmf:=N72
 cases hm:d_g ws ts with
 | false =>
  have HM:=Lib.hid hm;have HT:=Lib.hid (show d_q ws ts D bs=false by simp [d_q,hm]);clear hm
  go_enter Tryz.func73,Tryz.ntmps73
  go_wp2_with fail
  refine (c_n a a' n c n' c' ws ts _ (slA _ S1) (slA _ S2)).mono ?_;exact J98
 | true =>
  have HM:=Lib.hid hm;clear hm
  by_cases hs:c_i l D=true
  ·have hs':c_i bs.length D=true:=by rw [Hl.out];exact hs
   have HS:=Lib.hid hs';simp only [c_i,decide_eq_true_eq] at hs;obtain ⟨s1,s2,s3,s4⟩:=hs;have s1':1≤l:=by omega
   have s2':l≤8:=by omega
   clear hs'
   go_enter Tryz.func73,Tryz.ntmps73
   go_wp2_with fail
   refine (c_n a a' n c n' c' ws ts _ (slA _ S1) (slA _ S2)).mono ?_;rintro e w1 ⟨rfl,hb⟩;rw [HM.out];have hb1:=N6;have c0:=N223;have c1:=N215;have c2:=N108;have c3:=N58;have HB1:=Lib.hid hb1;have S':=blB hb1 S;clear hb hb1
   go_wp2
   go_loopw [38] (fun s wr=>∃ k:Nat,k≤l∧s=.int .i64 k∧Hid (j_g ws.length D bs k)∧Below w1.heap.size w1 wr) (fun s _=>l - (intOf s).toNat)
   case atStart=>exact ⟨0,by omega,rfl,by intro j hj;omega,Below.refl _ _⟩
   case round =>
    obtain ⟨k,hk,rfl,hr,hb⟩:=hrel;have c0':=a_t hb c0;have c1':=a_t hb c1;have c2':=a_t hb c2;have c3':=a_t hb c3;have HB:=Lib.hid hb
    by_cases hlt:k < l
    ·obtain ⟨b,o,p,pc,rfl,k0,hcap,hp⟩:=h_J (blB hb S') hlt;obtain ⟨x,hx⟩:=mn (bs.getD k []);rw [hx] at k0 hp hcap;have HX:=Lib.hid hx;obtain ⟨m,hm⟩:=mn (x.length);rw [hm] at k0 hp hcap;have HM:=Lib.hid hm;have hcap1:=hcap.1;have hcap2:=hcap.2.1;have i1:(0:Int)≤k:=by omega
     have i2:(k:Int) < l:=by omega
     clear hx hm hb hcap
     by_cases hD:D < m
     ·have HF:=Lib.hid (g_O (ws:=ws) (ts:=ts) (D:=D) (bs:=bs) (k:=k) (by rw [Hl.out];exact hlt) (by rw [HX.out];simp [f_9,HM.out];omega));exact J80
     ·have hD':(m:Int)≤D:=by omega
      cases hin:x.all (inP n) with
      | false =>
       have HF:=Lib.hid (g_O (ws:=ws) (ts:=ts) (D:=D) (bs:=bs) (k:=k) (by rw [Hl.out];exact hlt) (by rw [HX.out,Hn.out];simp only [f_9];rw [hin];simp));have HI:=Lib.hid hin;clear hin
       go_wp2_with (go_at_call 109;refine (e_B p m pc x a a' (some ⟨b,o,none⟩) n c n' c' l d D _ hp (by omega)).mono ?_;rw [HI.out];rintro e w2 ⟨rfl,hb2⟩;have HB2:=Lib.hid (a_a HB.out hb2);clear hb2)
       go_ret
       exact a_i HF.out (HB1.out.trans (HB2.out.mono HB1.out.size))
      | true =>
       have HF:=Lib.hid (g_3 hr.out (by rw [HX.out,Hn.out];simp only [f_9,HM.out];rw [hin];simpa using hD'));have HI:=Lib.hid hin;clear hin
       go_wp2_with (go_at_call 109;refine (e_B p m pc x a a' (some ⟨b,o,none⟩) n c n' c' l d D _ hp (by omega)).mono ?_;rw [HI.out];rintro e w2 ⟨rfl,hb2⟩;have HB2:=Lib.hid (a_a HB.out hb2);clear hb2)
       go_roundw
       case rel=>exact ⟨k+1,by omega,by go_num,HF.out,HB2.out⟩
       case measure=>simp [intOf];omega
    ·obtain rfl:k=l:=by omega
     have HF:=Lib.hid (j_J HM.out HS.out (by rw [Hl.out];exact hr.out));clear hb;exact J80
  ·have HT:=Lib.hid (show d_q ws ts D bs=false by
    have:c_i bs.length D=false:=by rw [Hl.out];simpa using hs
    simp [d_q,this])
   have hs':¬ ((1:Int)≤l∧(l:Int)≤8∧0≤D∧D≤8):=by simpa [c_i] using hs
   clear hs
   go_enter Tryz.func73,Tryz.ntmps73
   go_wp2_with fail
   refine (c_n a a' n c n' c' ws ts _ (slA _ S1) (slA _ S2)).mono ?_;rintro e w1 ⟨rfl,hb⟩;rw [HM.out];have hb1:=N6;have c2:=N108;have c3:=N58;have HB1:=Lib.hid hb1;clear hb hb1
   by_cases d0:D < 0
   ·go_wp2
    go_ret
    exact a_i HT.out HB1.out
   ·by_cases d1:8 < D
    ·go_wp2
     go_ret
     exact a_i HT.out HB1.out
    ·by_cases d2:(l:Int) < 1
     ·go_wp2
      go_ret
      exact a_i HT.out HB1.out
     ·have d3:8 < (l:Int):=by omega
      go_wp2
      go_ret
      exact a_i HT.out HB1.out
theorem e_i (a a' q:Option Addr) (n c n' c' l d:Nat) (ws ts:List Int) (D th:Int) (bs:List (List (Int×Int))) (w:World) (S1:Sl w a n ws) (S2:Sl w a' n' ts) (S:Bl w q l bs) :
  Calls Tryz.prog 147 #[.agg #[.slice a n c,.slice a' n' c',.int .i64 D,.slice q l d],.int .i64 th] w (a_1 (d_q ws ts D bs&&thB bs th) w):=by
 have Hl:=Lib.hid S.1;have HT:=Lib.hid (show thB bs th=decide (0≤th∧th < l) by rw [thB,Hl.out])
 cases hm:d_q ws ts D bs with
 | false =>
  have HM:=Lib.hid hm;clear hm
  go_enter Tryz.func147,Tryz.ntmps147
  go_wp2_with fail
  refine (e_4 a a' q n c n' c' l d ws ts D bs _ (slA _ S1) (slA _ S2) (blA _ S)).mono ?_;rintro e w1 ⟨rfl,hb⟩;rw [HM.out];have HB:=N122;clear hb
  go_wp2
  go_ret
  exact a_i (by simp) HB.out
 | true =>
  have HM:=Lib.hid hm;clear hm
  by_cases h0:0≤th
  all_goals
   have q0:decide (0≤th)=decide (0≤th):=rfl
   go_enter Tryz.func147,Tryz.ntmps147
   go_wp2_with fail
   refine (e_4 a a' q n c n' c' l d ws ts D bs _ (slA _ S1) (slA _ S2) (blA _ S)).mono ?_;rintro e w1 ⟨rfl,hb⟩;rw [HM.out];have c3:=N58;have HB:=N122;clear hb q0
   go_wp2
   go_ret
   exact a_i (by rw [HT.out,Bool.eq_iff_iff];simp;try omega) HB.out
theorem r_t {Q:Nat→Prop} {F:Nat} {w:World} {a:Option Addr} {n:Nat} {zs:List Int} (hQ:∀ b,Q b→F≤b) (h:SlP Q w a n zs):SlF F w a n zs:=⟨h.1,h.2.imp id fun ⟨b,o,e,hq,r⟩=>⟨b,o,e,hQ b hq,r⟩⟩
theorem s_a {w:World} {g:Nat} (x y:Value) (h:(w.cell? ⟨g,0,none⟩).isSome=true):((w.setCell ⟨g,0,none⟩ x).setCell ⟨g,1,none⟩ y).cell? ⟨g,0,none⟩=some x:=by
 rw [World.cell?_setCell_other]
 ·exact World.cell?_setCell_same' _ _ _ h
 ·intro h;simp at h
theorem s_b {w:World} {g:Nat} (x y:Value) (h:(w.cell? ⟨g,1,none⟩).isSome=true):((w.setCell ⟨g,0,none⟩ x).setCell ⟨g,1,none⟩ y).cell? ⟨g,1,none⟩=some y:=by
 refine World.cell?_setCell_same' _ _ _ ?_;rw [World.cell?_setCell_other]
 ·exact h
 ·intro h;simp at h
theorem c_b {w w':World} {a:Addr} {v:Value} (hb:Below w.heap.size w w') (h:w.cell? a=some v) (f:w.frozen? a=false):w'.frozen? a=false:=(hb.frozen (b_d h)).trans f
def PlQ (Q:Nat→Prop) (w:World) (a:Option Addr) (n:Nat) (ps:List (Int×Int)):Prop:=ps.length=n∧(n=0∨∃ b o,a=some ⟨b,o,none⟩∧Q b∧p_8 w b o ps)
theorem PlQ.pl {Q:Nat→Prop} {w:World} {a:Option Addr} {n:Nat} {ps:List (Int×Int)} (h:PlQ Q w a n ps):Pl w a n ps:=⟨h.1,h.2.imp id fun ⟨b,o,e,_,r⟩=>⟨b,o,e,r⟩⟩
theorem p_k {Q:Nat→Prop} {F:Nat} {w:World} {a:Option Addr} {n:Nat} {ps:List (Int×Int)} (hQ:∀ b,F≤b→b < w.heap.size→Q b) (h:PlF F w a n ps):PlQ Q w a n ps:=by
 refine ⟨h.1,?_⟩
 by_cases h0:n=0
 ·exact .inl h0
 ·obtain ⟨b,o,e,hf,r⟩:=h.2.resolve_left h0;have:=b_d (r 0 (by have:=h.1;omega)).1;exact .inr ⟨b,o,e,hQ b hf this,r⟩
theorem r_d {Q Q':Nat→Prop} {w:World} {a:Option Addr} {n:Nat} {ps:List (Int×Int)} (hQ:∀ b,Q b→Q' b) (h:PlQ Q w a n ps):PlQ Q' w a n ps:=⟨h.1,h.2.imp id fun ⟨b,o,e,hf,r⟩=>⟨b,o,e,hQ b hf,r⟩⟩
theorem g_Q {Q:Nat→Prop} {w w':World} {a:Option Addr} {n:Nat} {ps:List (Int×Int)} (hk:∀ (b o:Nat) (v:Value),Q b→w.cell? ⟨b,o,none⟩=some v→w'.cell? ⟨b,o,none⟩=some v) (h:PlQ Q w a n ps):PlQ Q w' a n ps:=
 ⟨h.1,h.2.imp id fun ⟨b,o,e,hq,r⟩=>⟨b,o,e,hq,fun i hi=>⟨hk _ _ _ hq (r i hi).1,hk _ _ _ hq (r i hi).2⟩⟩⟩
theorem a_r {Q:Nat→Prop} {w w':World} {a:Option Addr} {n:Nat} {zs:List Int} (hk:∀ (b o:Nat) (v:Value),Q b→w.cell? ⟨b,o,none⟩=some v→w'.cell? ⟨b,o,none⟩=some v) (h:SlP Q w a n zs):SlP Q w' a n zs:=
 ⟨h.1,h.2.imp id fun ⟨b,o,e,hq,r⟩=>⟨b,o,e,hq,fun i hi=>hk _ _ _ hq (r i hi)⟩⟩
theorem u_M {Q:Nat→Prop} {w w':World} {a:Option Addr} {n:Nat} {ps:List (Int×Int)} (hb:Below w.heap.size w w') (h:PlQ Q w a n ps):PlQ Q w' a n ps:=g_Q (fun _ _ _ _ hv=>a_t hb hv) h
theorem a_2 {w:World} {p:Addr} {x:Value} {Q:Nat→Prop} (hp:∀ b,Q b→b≠p.block):∀ (b o:Nat) (v:Value),Q b→w.cell? ⟨b,o,none⟩=some v→(w.setCell p x).cell? ⟨b,o,none⟩=some v:=by
 intro b o v hq hv;rw [World.cell?_setCell_other]
 ·exact hv
 ·intro e;exact hp b hq (by rw [e])
def BCellQ (Q:Nat→Prop) (w:World) (a:Addr) (b:List (Int×Int)):Prop:=∃ q c,w.cell? a=some (.slice q b.length c)∧d_A q b.length c∧PlQ Q w q b.length b
theorem BCellQ.cell {Q:Nat→Prop} {w:World} {a:Addr} {b:List (Int×Int)} (h:BCellQ Q w a b):m_x w a b:=by
 obtain ⟨q,c,h1,h2,h3⟩:=h;exact ⟨q,c,h1,h2,h3.pl⟩
theorem d_O {Q:Nat→Prop} {w w':World} {a:Addr} {b:List (Int×Int)} (ha:∀ v,w.cell? a=some v→w'.cell? a=some v) (hk:∀ (b o:Nat) (v:Value),Q b→w.cell? ⟨b,o,none⟩=some v→w'.cell? ⟨b,o,none⟩=some v) (h:BCellQ Q w a b):BCellQ Q w' a b:=by
 obtain ⟨q,c,h1,h2,h3⟩:=h;exact ⟨q,c,ha _ h1,h2,g_Q hk h3⟩
theorem f_r {Q Q':Nat→Prop} (hQ:∀ b,Q b→Q' b) {w:World} {a:Addr} {b:List (Int×Int)} (h:BCellQ Q w a b):BCellQ Q' w a b:=by
 obtain ⟨q,c,h1,h2,h3⟩:=h;exact ⟨q,c,h1,h2,r_d hQ h3⟩
def BlP (Q:Nat→Prop) (w:World) (a:Option Addr) (n:Nat) (bs:List (List (Int×Int))):Prop:=bs.length=n∧(n=0∨∃ b o,a=some ⟨b,o,none⟩∧Q b∧∀ i,i < bs.length→BCellQ Q w ⟨b,o+i,none⟩ (bs.getD i []))
theorem BlP.bl {Q:Nat→Prop} {w:World} {a:Option Addr} {n:Nat} {bs:List (List (Int×Int))} (h:BlP Q w a n bs):Bl w a n bs:=⟨h.1,h.2.imp id fun ⟨b,o,e,_,r⟩=>⟨b,o,e,fun i hi=>(r i hi).cell⟩⟩
theorem g_2 (Q:Nat→Prop) (w:World):BlP Q w none 0 []:=⟨rfl,.inl rfl⟩
theorem a_G {Q:Nat→Prop} {w w':World} {a:Option Addr} {n:Nat} {bs:List (List (Int×Int))} (hk:∀ (b o:Nat) (v:Value),Q b→w.cell? ⟨b,o,none⟩=some v→w'.cell? ⟨b,o,none⟩=some v) (h:BlP Q w a n bs):BlP Q w' a n bs:=
 ⟨h.1,h.2.imp id fun ⟨b,o,e,hq,r⟩=>⟨b,o,e,hq,fun i hi=>d_O (fun _ hv=>hk _ _ _ hq hv) hk (r i hi)⟩⟩
theorem a_H {Q Q':Nat→Prop} (hQ:∀ b,Q b→Q' b) {w:World} {a:Option Addr} {n:Nat} {bs:List (List (Int×Int))} (h:BlP Q w a n bs):BlP Q' w a n bs:=
 ⟨h.1,h.2.imp id fun ⟨b,o,e,hq,r⟩=>⟨b,o,e,hQ b hq,fun i hi=>f_r hQ (r i hi)⟩⟩
theorem n_A {Q:Nat→Prop} {w w':World} {a:Option Addr} {n:Nat} {bs:List (List (Int×Int))} (hb:Below w.heap.size w w') (h:BlP Q w a n bs):BlP Q w' a n bs:=a_G (fun _ _ _ _ hv=>a_t hb hv) h
def j_c (F g k l:Nat) (bs:List (List (Int×Int))) (w:World):Prop:=bs.length=l∧F≤g∧g < w.heap.size∧(∀ i,i < k→BCellQ (fun b=>F≤b∧b≠g) w ⟨g,i,none⟩ (bs.getD i []))∧(∀ i,k≤i→i < l→w.cell? ⟨g,i,none⟩=some (.slice none 0 0))∧∀ i,i < l→w.frozen? ⟨g,i,none⟩=false
theorem j_r {F g k l:Nat} {bs:List (List (Int×Int))} {w:World} (h:j_c F g k l bs w) {i:Nat} (hi:i < l):(w.cell? ⟨g,i,none⟩).isSome=true:=by
 obtain ⟨h1,h2,h3,h4,h5,h6⟩:=h
 by_cases e:i < k
 ·obtain ⟨q,c,e,_⟩:=h4 i e;rw [e];rfl
 ·rw [h5 i (by omega) hi];rfl
theorem r_Z {F g k l:Nat} {bs:List (List (Int×Int))} {w w':World} (hb:Below w.heap.size w w') (h:j_c F g k l bs w):j_c F g k l bs w':=by
 obtain ⟨h1,h2,h3,h4,h5,h6⟩:=h;have:=hb.size;exact ⟨h1,h2,by omega,fun i hi=>d_O (fun _ hv=>a_t hb hv) (fun _ _ _ _ hv=>a_t hb hv) (h4 i hi),fun i hk hi=>a_t hb (h5 i hk hi),fun i hi=>(hb.frozen (p:=⟨g,i,none⟩) h3).trans (h6 i hi)⟩
theorem q_p {F g k l:Nat} {bs:List (List (Int×Int))} {w:World} (h:j_c F g k l bs w) (j:Nat) (hj:j < l) (hjk:j≤k) (b:List (Int×Int)) {p:Option Addr} {m c:Nat} (hp:PlQ (fun b=>F≤b∧b≠g) w p m b) (hc:d_A p m c) (k':Nat) (hk':k'=if j=k then k+1 else k) (bs':List (List (Int×Int))) (hbs:bs'.length=l) (hb1:bs'.getD j []=b) (hb2:∀ i,i < k→i≠j→bs'.getD i []=bs.getD i []) :
  j_c F g k' l bs' (w.setCell ⟨g,j,none⟩ (.slice p m c)):=by
 have hs:=j_r h hj;obtain ⟨h1,h2,h3,h4,h5,h6⟩:=h;have hkp:∀ (b o:Nat) (v:Value),(F≤b∧b≠g)→w.cell? ⟨b,o,none⟩=some v→(w.setCell ⟨g,j,none⟩ (.slice p m c)).cell? ⟨b,o,none⟩=some v:=a_2 (Q:=fun b=>F≤b∧b≠g) (fun b hb=>hb.2)
 have hne:∀ i,i≠j→∀ v,w.cell? ⟨g,i,none⟩=some v→(w.setCell ⟨g,j,none⟩ (.slice p m c)).cell? ⟨g,i,none⟩=some v:=by
  intro i hi v hv;rw [World.cell?_setCell_other]
  ·exact hv
  ·intro e;exact hi (congrArg Addr.off e).symm
 refine ⟨hbs,h2,by simpa using h3,fun i hi=>?_,fun i hk hi=>?_,fun i hi=>by rw [World.frozen?_setCell];exact h6 i hi⟩
 ·by_cases e:i=j
  ·subst e;obtain rfl:b.length=m:=hp.1;rw [hb1];exact ⟨p,c,World.cell?_setCell_same' _ _ _ hs,hc,g_Q hkp hp⟩
  ·have hik:i < k:=by rw [hk'] at hi;split at hi <;> omega
   rw [hb2 i hik e];exact d_O (hne i e) hkp (h4 i hik)
 ·refine hne i ?_ _ (h5 i ?_ hi)
  ·rw [hk'] at hk;split at hk <;> omega
  ·rw [hk'] at hk;split at hk <;> omega
theorem i_D {F g l:Nat} {bs:List (List (Int×Int))} {w:World} (h:j_c F g l l bs w):BlP (fun b=>F≤b) w (some ⟨g,0,none⟩) l bs:=by
 obtain ⟨h1,h2,h3,h4,h5,h6⟩:=h;refine ⟨h1,.inr ⟨g,0,rfl,h2,fun i hi=>?_⟩⟩;rw [Nat.zero_add];exact f_r (fun b hb=>hb.1) (h4 i (by omega))
theorem Tryz.info55:(Tryz.prog.info? 55).map (fun i=>(i.zero,i.size,i.bytes))=some (some (.slice none 0 0),1,24):=by kernel_rfl
def Nb (l:Nat):Array Value:=madeCells #[.slice none 0 0] l
theorem r_R (l i:Nat) (h:i < l):(Nb l)[i]?=some (.slice none 0 0):=by
 unfold Nb madeCells;simp [h,Nat.mod_one]
theorem j_E (n:Nat) (h:n≤1000) (w:World):(Instr.makeSlice 28 (.int .i64 n) (.int .i64 n)).run Tryz.prog w=.ok (.slice (some ⟨w.heap.size,0,none⟩) n n) (w.alloc (.cells (Nb n) 55)):=by
 obtain ⟨i0,hi,hz0,hz1,hz2⟩:=info_parts Tryz.info55;have:=run_make (P:=Tryz.prog) w 28 55 i0 (.slice none 0 0) Tryz.underlying28 hi hz0 .i64 .i64 n n (by omega) (by omega) (by rw [hz2];omega) (by omega);rw [this];simp [hz1,Nb,Value.cells]
theorem q_o (F l:Nat) (bs:List (List (Int×Int))) (w:World) (hl:bs.length=l) (hF:F≤w.heap.size):j_c F w.heap.size 0 l bs (w.alloc (.cells (Nb l) 55)):=
 ⟨hl,hF,by simp,fun i hi=>by omega,fun i _ hi=>a_Y _ _ _ rfl (r_R l i hi),fun i hi=>c_p _ _ rfl⟩
theorem h_5 (a:Option Addr) (n c:Nat) (ps:List (Int×Int)) (w:World) (S:Pl w a n ps) (hcap:d_A a n c) (hn:n≤1000) :
  Calls Tryz.prog 89 #[.slice a n c] w (h_T ps w):=by
 have Hn:=Lib.hid S.1
 cases a with
 | none =>
  obtain rfl:c=0:=hcap.2.2 rfl;obtain rfl:n=0:=by have:=hcap.1;omega
  obtain rfl:ps=[]:=List.eq_nil_of_length_eq_zero Hn.out;have q:=fun w=>i_G 55 59 none 0 0 Tryz.underlying55 w
  clear hcap
  go_enter Tryz.func89,Tryz.ntmps89
  go_wp2
  go_ret
  exact ⟨none,0,rfl,e_b,p_j _ _,Below.refl _ _⟩
 | some p =>
  have HC:Hid (∀ W,Below w.heap.size w W→∀ j u,(b_K ps)[j]?=some u→W.cell? (p.add j)=some u):=by
   intro W hW j u hu;have hj:=N140;obtain ⟨b,o,e,R⟩:=S.2.resolve_left (by rw [←Hn.out];omega)
   cases e
   rw [f_I];exact f_A (r_f hW R) j u hu
  obtain ⟨i0,hi,hz0,hz1,hz2⟩:=N189;have HI:=N45;have q:=fun w=>i_G 55 59 (some p) n c Tryz.underlying55 w
  have h1:=hcap.1;have h2:=hcap.2.1;clear hi hz0 hz1 hz2 hcap S
  go_enter Tryz.func89,Tryz.ntmps89
  go_wp2_with (at_builtin;refine wpList_append_own _ rfl _ _ 55 rfl w.heap.size 59 i0 (.agg #[.int .i64 0,.int .i64 0]) 2 16 Tryz.underlying55 HI.out.1 HI.out.2.1 HI.out.2.2.1 HI.out.2.2.2 rfl (by decide) _ 0 [] rfl (World.ownsRow_made w #[] 0 (Nat.le_refl _) (by decide) (by simp)) p n c (b_K ps) rfl ?c1 ?c2 ?c3 ?c4 ?c5 ?c6 ?_)
  case c1=>rw [b_3,Hn.out]
  case c2=>exact HC.out _ (by go_grown)
  case c3=>exact d_l _
  case c4=>unfold maxLen;omega
  case c5=>omega
  case c6=>simp
  intro v' w1 hown' hgrow _;have hb':=((Below.refl w.heap.size w).alloc (Nat.le_refl _) (.cells #[] 59)).grown hgrow (by simp) (fun r hr=>by cases hr;simp);have ⟨HO,HB⟩:=hh2 hown' hb';clear hown' hb' hgrow
  go_wp2
  go_ret
  exact i_E Hn.out HO.out HB.out
theorem g_M {F g k l:Nat} {bs:List (List (Int×Int))} {w:World} (h:j_c F g k l bs w) {p:Addr} (hp:p.block < F) (v:Value):j_c F g k l bs (w.setCell p v):=by
 obtain ⟨h1,h2,h3,h4,h5,h6⟩:=h;have hk:∀ (b o:Nat) (u:Value),F≤b→w.cell? ⟨b,o,none⟩=some u→(w.setCell p v).cell? ⟨b,o,none⟩=some u:=a_2 (Q:=fun b=>F≤b) (fun b hb=>by omega);exact ⟨h1,h2,by simpa using h3,fun i hi=>d_O (hk g i · h2) (fun b o u hq=>hk b o u hq.1) (h4 i hi),fun i hi hl=>hk _ _ _ h2 (h5 i hi hl),fun i hi=>by rw [World.frozen?_setCell];exact h6 i hi⟩
theorem j_s {F F' g k l:Nat} {bs:List (List (Int×Int))} {w:World} (hF:F'≤F) (h:j_c F g k l bs w):j_c F' g k l bs w:=by
 obtain ⟨h1,h2,h3,h4,h5,h6⟩:=h;exact ⟨h1,by omega,h3,fun i hi=>f_r (fun b hb=>⟨by omega,hb.2⟩) (h4 i hi),h5,h6⟩
theorem f_Y {F F':Nat} {w:World} {a:Option Addr} {n:Nat} {zs:List Int} (hF:F'≤F) (h:SlF F w a n zs):SlF F' w a n zs:=⟨h.1,h.2.imp id fun ⟨b,o,e,hq,r⟩=>⟨b,o,e,by omega,r⟩⟩
theorem t_g {w:World} {g:Nat} (x y z u:Value) (h0:(w.cell? ⟨g,0,none⟩).isSome=true) (h1:(w.cell? ⟨g,1,none⟩).isSome=true) (h2:(w.cell? ⟨g,2,none⟩).isSome=true) (h3:(w.cell? ⟨g,3,none⟩).isSome=true) :
  ((((w.setCell ⟨g,0,none⟩ x).setCell ⟨g,1,none⟩ y).setCell ⟨g,2,none⟩ z).setCell ⟨g,3,none⟩ u).cell? ⟨g,0,none⟩=some x∧((((w.setCell ⟨g,0,none⟩ x).setCell ⟨g,1,none⟩ y).setCell ⟨g,2,none⟩ z).setCell ⟨g,3,none⟩ u).cell? ⟨g,1,none⟩=some y ∧
  ((((w.setCell ⟨g,0,none⟩ x).setCell ⟨g,1,none⟩ y).setCell ⟨g,2,none⟩ z).setCell ⟨g,3,none⟩ u).cell? ⟨g,2,none⟩=some z∧((((w.setCell ⟨g,0,none⟩ x).setCell ⟨g,1,none⟩ y).setCell ⟨g,2,none⟩ z).setCell ⟨g,3,none⟩ u).cell? ⟨g,3,none⟩=some u:=by
 have ne:∀ {i j:Nat},i≠j→(⟨g,j,none⟩:Addr)≠⟨g,i,none⟩:=fun h e=>h (congrArg Addr.off e).symm
 have st:∀ {W:World} {i j:Nat} {v:Value},i≠j→(W.setCell ⟨g,j,none⟩ v).cell? ⟨g,i,none⟩=W.cell? ⟨g,i,none⟩:=fun h=>World.cell?_setCell_other _ _ _ _ (ne h)
 refine ⟨?_,?_,?_,?_⟩
 ·rw [st (by decide),st (by decide),st (by decide)];exact World.cell?_setCell_same' _ _ _ h0
 ·rw [st (by decide),st (by decide)];exact World.cell?_setCell_same' _ _ _ (by rw [st (by decide)];exact h1)
 ·rw [st (by decide)];exact World.cell?_setCell_same' _ _ _ (by rw [st (by decide),st (by decide)];exact h2)
 ·exact World.cell?_setCell_same' _ _ _ (by rw [st (by decide),st (by decide),st (by decide)];exact h3)
def s_j (w1:World) (n n':Nat) (ws ts:List Int) (s3 s4:Value) (wx:World):Prop:=∃ p d p' d',s3=.slice p n d∧s4=.slice p' n' d'∧SlF w1.heap.size wx p n ws∧SlF w1.heap.size wx p' n' ts∧Below w1.heap.size w1 wx
def l_A (ws ts:List Int) (D:Int) (bs:List (List (Int×Int))) (w:World) (e:Ending) (w':World):Prop:=
 ∃ p n d p' n' d' g m,e=.returned (.agg #[.slice p n d,.slice p' n' d',.int .i64 D,.slice (some ⟨g,0,none⟩) m m])∧SlP (fun b=>w.heap.size≤b∧b≠g) w' p n ws∧SlP (fun b=>w.heap.size≤b∧b≠g) w' p' n' ts∧j_c w.heap.size g m m bs w'∧Below w.heap.size w w'
theorem l_0 (w:World) (b:Nat) (x y z u:Value) (k0:w.cell? ⟨b,0,none⟩=some x) (k1:w.cell? ⟨b,1,none⟩=some y) (k2:w.cell? ⟨b,2,none⟩=some z) (k3:w.cell? ⟨b,3,none⟩=some u):(loadVar 109 ⟨b,0,none⟩).run Tryz.prog w=.ok (.agg #[x,y,z,u]) w:=by
 simp [go_sem,k0,k1,k2,k3]
theorem a_8 (w:World) (b:Nat) (x y z u:Value) (k0:w.cell? ⟨b,0,none⟩=some x) (k1:w.cell? ⟨b,1,none⟩=some y) (k2:w.cell? ⟨b,2,none⟩=some z) (k3:w.cell? ⟨b,3,none⟩=some u):(loadVar 30 ⟨b,0,none⟩).run Tryz.prog w=.ok (.agg #[x,y,z,u]) w:=by
 simp [go_sem,k0,k1,k2,k3]
end Go.Proofs.YtolabfafgbmdbaaGreatDoor
