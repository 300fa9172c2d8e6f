import Derived.Test.YtogdpojnbgeknaaGreatDoorT15
import Derived.Test.YtogdpojnbgeknaaGreatDoorT11
import Derived.Test.YtogdpojnbgeknaaGreatDoorT7
import Derived.Test.YtogdpojnbgeknaaGreatDoorT0
import Derived.Test.YtogdpojnbgeknaaGreatDoorT6
set_option maxRecDepth 100000
set_option maxHeartbeats 16000000
namespace Go.Proofs.YtogdpojnbgeknaaGreatDoor
open Go.ChangeShapes Go.WideShapes Go.ChangeAt Go.RowKit
theorem j_w (a a' q:Option Addr) (n c n' c' l d:Nat) (ws ts:List Int) (D:Int) (bs:List (List (Int×Int))) (th x:Int) (w:World) (S1:Sl w a n ws) (S2:Sl w a' n' ts) (S:Bl w q l bs) (hh:j_i ws ts D bs th=true) :
  Calls Tryz.prog 101 #[.agg #[.slice a n c,.slice a' n' c',.int .i64 D,.slice q l d],.int .i64 th,.int .i64 x] w (g_C (f_f ws ts D bs th x) (c_5 ws ts D bs th x) w):=by
 have Hl:=Lib.hid S.1;obtain ⟨hm,h0,h1⟩:=d_e hh;obtain ⟨j,rfl⟩:=N120;have hjl:j < l:=by rw [←Hl.out];omega
 have i1:(0:Int)≤j:=by omega
 have i2:(j:Int) < l:=by omega
 have HE:=Lib.hid (show c_5 ws ts D bs j x=a_I ws ts x by rw [c_5,if_pos hh]);have HV:=N122;have H8:=N179;have HS8:=Lib.hid H8;have HM:=Lib.hid (a_X hm).1;clear hh hm h0 h1 H8
 go_enter Tryz.func101,Tryz.ntmps101
 go_wp2_with fail
 refine (d_S a a' n c n' c' ws ts x _ (slA _ S1) (slA _ S2) HM.out).mono ?_;rintro e w1 ⟨rfl,hb⟩;obtain ⟨ev,hev⟩:=mn (a_I ws ts x);obtain ⟨lv,hlv⟩:=mn (b_K ws ts x);have ⟨HEV,HLV⟩:=hh2 hev hlv;rw [hev,hlv];have hb1:=N11;have k3:=N106;have HB1:=Lib.hid hb1
 by_cases he:ev=0
 ·subst he;obtain ⟨b,o,y,yc,rfl,g0,hcap,hp⟩:=k_a (blB hb1 S) hjl;obtain ⟨ps,hps⟩:=mn (bs.getD j []);have h8:=HS8.out;rw [hps] at g0 hp hcap h8;have HPS:=Lib.hid hps;obtain ⟨m,hm⟩:=mn (ps.length);rw [hm] at g0 hp hcap h8;clear hb hb1 hlv hev hps hm hcap HS8
  go_wp2_with fail
  refine (i_H y m yc ps x _ hp (by omega)).mono ?_;rintro e w3 ⟨rfl,hb⟩;have HB3:=Lib.hid (a_b HB1.out hb);exact J45
 ·have q1:=N127;have HEN:=Lib.hid he;clear hb hb1 hlv hev he k3 HS8
  go_wp2
  go_ret2
  exact c_T (by rw [HV.out,HEV.out,if_neg HEN.out]) (by rw [HE.out,HEV.out]) HB1.out
def g_n (Q:Nat→Prop) (w:World) (vs:List Value) (bs:List (List (Int×Int))):Prop:=vs.length=bs.length∧∀ i,i < bs.length→∃ q c,vs[i]?=some (.slice q (bs.getD i []).length c)∧d_v q (bs.getD i []).length c∧PlQ Q w q (bs.getD i []).length (bs.getD i [])
theorem m_r (Q:Nat→Prop) (w:World):g_n Q w [] []:=⟨rfl,fun i hi=>by simp at hi⟩
theorem s_g {Q:Nat→Prop} {w w':World} {vs:List Value} {bs:List (List (Int×Int))} (hb:Below w.heap.size w w') (h:g_n Q w vs bs):g_n Q w' vs bs:=
 ⟨h.1,fun i hi=>by obtain ⟨q,c,h1,h2,h3⟩:=h.2 i hi;exact ⟨q,c,h1,h2,u_x hb h3⟩⟩
theorem g_W {Q:Nat→Prop} {w:World} {vs:List Value} {bs:List (List (Int×Int))} {q:Option Addr} {n c:Nat} {b:List (Int×Int)} (h:g_n Q w vs bs) (hc:d_v q n c) (hp:PlQ Q w q n b):g_n Q w (vs++[.slice q n c]) (bs++[b]):=by
 exact J46
theorem h_b {Q:Nat→Prop} {e B:Nat} {w:World} {v:Value} {n:Nat} {vs:List Value} {bs:List (List (Int×Int))} (h:w.ownsRow B e 1 v n vs) (hv:g_n Q w vs bs) (hQ:∀ b,B≤b→Q b):∃ a c,v=.slice a n c∧d_v a n c∧BlP Q w a n bs:=by
 obtain ⟨hl,h⟩:=h;have hl':bs.length=n:=by rw [←hv.1,hl,Nat.mul_one]
 rcases h with ⟨rfl,h0⟩ | ⟨g,cap,cur,rfl,hb,hg,hn,hm,hs,ht⟩
 ·exact ⟨none,0,by rw [h0],by subst h0;exact d_7,hl',.inl h0⟩
 ·unfold maxLen at hm;refine ⟨_,_,rfl,⟨hn,by omega,fun e=>by cases e⟩,hl',.inr ⟨g,0,rfl,hQ _ hb,fun i hi=>?_⟩⟩;obtain ⟨q,c,h1,h2,h3⟩:=hv.2 i hi;refine ⟨q,c,?_,h2,h3⟩;simp only [World.cell?,hg];rw [←ht,List.getElem?_take,if_pos (by omega)] at h1
  simpa using h1
theorem f_i {Q:Nat→Prop} {w:World} {a:Option Addr} {n:Nat} {bs:List (List (Int×Int))} (h:BlP Q w a n bs) {i:Nat} (hi:i < n) :
  ∃ b o q c,a=some ⟨b,o,none⟩∧w.cell? ⟨b,o+i,none⟩=some (.slice q (bs.getD i []).length c)∧d_v q (bs.getD i []).length c∧PlQ Q w q (bs.getD i []).length (bs.getD i []):=by
 obtain ⟨b,o,e,_,r⟩:=h.2.resolve_left (by omega);obtain ⟨q,c,h1,h2,h3⟩:=r i (by rw [h.1];exact hi);exact ⟨b,o,q,c,e,h1,h2,h3⟩
theorem h_v (bs:List (List (Int×Int))) (i:Int) (b:List (Int×Int)) (k:Nat):e_e bs i b (k+1)=e_e bs i b k++[j_U bs i b k]:=rfl
theorem g_v (q:Option Addr) (l d:Nat) (bs:List (List (Int×Int))) (i:Int) (p:Option Addr) (m mc:Nat) (b:List (Int×Int)) (w:World) (Q:Nat→Prop) (S:BlP Q w q l bs) (hl8:l≤8) (hp:PlQ Q w p m b) (hc:d_v p m mc) (hQ:∀ b,w.heap.size≤b→Q b) :
  Calls Tryz.prog 105 #[.slice q l d,.int .i64 i,.slice p m mc] w (fun e w'=>∃ r f,e=.returned (.slice r l f)∧BlP Q w' r l (e_e bs i b l)∧Below w.heap.size w w'):=by
 obtain ⟨i0,hi,hz0,hz1,hz2⟩:=info_parts Tryz.info55;have HI:=N44;have Hl:=Lib.hid S.1;have ⟨HC,HP⟩:=hh2 hc hp;clear hi hz0 hz1 hz2 hc hp
 go_enter Tryz.func105,Tryz.ntmps105
 go_wp2
 go_loopw [7,13] (fun v s wr=>∃ (k:Nat) (vs:List Value),k≤l∧s=.int .i64 k∧Hid (wr.ownsRow w.heap.size 55 1 v k vs)∧Hid (g_n Q w vs (e_e bs i b k))∧Below w.heap.size w wr) (fun _ s _=>l - (intOf s).toNat)
 case atStart=>exact ⟨0,[],by omega,rfl,World.ownsRow_made w #[] 0 (Nat.le_refl _) (by decide) (by simp),m_r Q w,(Below.refl _ _).alloc (Nat.le_refl _) _⟩
 case round =>
  obtain ⟨k,vs,hk,rfl,ho,hv,hb⟩:=hrel
  by_cases hlt:k < l
  ·obtain ⟨b1,o1,y,yc,rfl,g0,hcap,hp1⟩:=f_i S hlt;replace g0:=a_u hb g0;obtain ⟨x,hx⟩:=mn (bs.getD k []);rw [hx] at g0 hcap hp1;have HX:=Lib.hid hx;obtain ⟨u,hu⟩:=mn (x.length);rw [hu] at g0 hcap hp1;have ⟨HCAP,HP1,HB⟩:=hh3 hcap hp1 hb;have hsz:=hb.size;have j1:(0:Int)≤k:=by omega
   have j2:(k:Int) < l:=by omega
   clear hx hu hcap hp1 hb
   by_cases e:(k:Int)=i
   ·have q1:=N248;have HWB:=Lib.hid (show j_U bs i b k=b by rw [j_U,if_pos e]);clear e
    go_wp2_with (at_builtin;refine wpList_append_own_at _ rfl _ _ 28 rfl w.heap.size 55 i0 (.slice none 0 0) 1 24 Tryz.underlying28 HI.out.1 HI.out.2.1 HI.out.2.2.1 HI.out.2.2.2 rfl (by decide) _ _ _ rfl (ho.out.alloc _) ⟨wr.heap.size,0,none⟩ 1 1 [.slice p m mc] rfl rfl ?c1 ?c2 ?c3 ?c4 ?c5 ?_)
    case c1=>exact cell_one_new _ _ _
    case c2=>intro x hx;simp at hx;subst hx;rfl
    case c3=>unfold maxLen;omega
    case c4=>omega
    case c5=>simp;omega
    intro v' w1 hown hgrow _ _;have HOW:=Lib.hid hown;have HBB:=N232;clear hown hgrow
    go_wp2_with fail
    go_roundw
    case rel =>
     refine ⟨k+1,_,by omega,by go_num,HOW.out,?_,HB.out.trans HBB.out⟩;rw [h_v,HWB.out];exact g_W hv.out HC.out HP.out
    case measure=>simp [intOf];omega
   ·have q1:=N246;have HWB:=Lib.hid (show j_U bs i b k=x by rw [j_U,if_neg e,HX.out]);clear e
    go_wp2_with (at_builtin;refine wpList_append_own_at _ rfl _ _ 28 rfl w.heap.size 55 i0 (.slice none 0 0) 1 24 Tryz.underlying28 HI.out.1 HI.out.2.1 HI.out.2.2.1 HI.out.2.2.2 rfl (by decide) _ _ _ rfl (ho.out.alloc _) ⟨wr.heap.size,0,none⟩ 1 1 [.slice y u yc] rfl rfl ?d1 ?d2 ?d3 ?d4 ?d5 ?_)
    case d1=>exact cell_one_new _ _ _
    case d2=>intro x hx;simp at hx;subst hx;rfl
    case d3=>unfold maxLen;omega
    case d4=>omega
    case d5=>simp;omega
    intro v' w1 hown hgrow _ _;have HOW:=Lib.hid hown;have HBB:=N232;clear hown hgrow
    go_wp2_with fail
    go_roundw
    case rel =>
     refine ⟨k+1,_,by omega,by go_num,HOW.out,?_,HB.out.trans HBB.out⟩;rw [h_v,HWB.out];exact g_W hv.out HCAP.out HP1.out
    case measure=>simp [intOf];omega
  ·obtain rfl:k=l:=by omega
   have HB:=Lib.hid hb;clear hb
   go_wp2
   go_ret
   obtain ⟨r,f,e,-,hbl⟩:=h_b ho.out (s_g HB.out hv.out) hQ
   cases e
   exact ⟨_,_,rfl,hbl,HB.out⟩
theorem i_d {bs:List (List (Int×Int))} {j:Nat} {b:List (Int×Int)} {l:Nat} (hl:bs.length=l):e_e bs j b l=bs.set j b:=by rw [←hl,n_m]
theorem d_T {Q Q':Nat→Prop} {w:World} {a:Option Addr} {n:Nat} {zs:List Int} (hQ:∀ b,Q b→b < w.heap.size→Q' b) (h:SlP Q w a n zs):SlP Q' w a n zs:=by
 refine ⟨h.1,?_⟩
 by_cases h0:n=0
 ·exact .inl h0
 ·obtain ⟨b,o,e,q,r⟩:=h.2.resolve_left h0;exact .inr ⟨b,o,e,hQ b q (b_c (r 0 (by have:=h.1;omega))),r⟩
theorem s_O {Q Q':Nat→Prop} {w:World} {a:Option Addr} {n:Nat} {ps:List (Int×Int)} (hQ:∀ b,Q b→b < w.heap.size→Q' b) (h:PlQ Q w a n ps):PlQ Q' w a n ps:=by
 refine ⟨h.1,?_⟩
 by_cases h0:n=0
 ·exact .inl h0
 ·obtain ⟨b,o,e,q,r⟩:=h.2.resolve_left h0;exact .inr ⟨b,o,e,hQ b q (b_c (r 0 (by have:=h.1;omega)).1),r⟩
theorem f_1 {Q Q':Nat→Prop} {w:World} {a:Option Addr} {n:Nat} {bs:List (List (Int×Int))} (hQ:∀ b,Q b→b < w.heap.size→Q' b) (h:BlP Q w a n bs):BlP Q' w a n bs:=by
 refine ⟨h.1,?_⟩
 by_cases h0:n=0
 ·exact .inl h0
 ·obtain ⟨b,o,e,q,r⟩:=h.2.resolve_left h0;obtain ⟨q1,c,h1,_⟩:=r 0 (by have:=h.1;omega);refine .inr ⟨b,o,e,hQ _ q (b_c h1),fun i hi=>?_⟩;obtain ⟨q',c',k1,k2,k3⟩:=r i hi;exact ⟨q',c',k1,k2,s_O hQ k3⟩
def r_7 (Q:Nat→Prop) (ws ts:List Int) (D:Int) (bs:List (List (Int×Int))) (x:Int) (w:World) (e:Ending) (w':World):Prop:=
 ∃ a n c a' n' c' q l d,e=.returned (.tuple #[.agg #[.slice a n c,.slice a' n' c',.int .i64 D,.slice q l d],.int .i64 x])∧SlP Q w' a n ws∧SlP Q w' a' n' ts∧BlP Q w' q l bs∧Below w.heap.size w w'
theorem l_Y {Q:Nat→Prop} {A B:List Int} {z E:Int} {C:List (List (Int×Int))} (he:E≠0) {w w':World} (hb:Below w.heap.size w w'):r_7 Q (okL E A) (okL E B) (okZ E z) (okL E C) E w (.returned (.tuple #[.agg #[.slice none 0 0,.slice none 0 0,.int .i64 0,.slice none 0 0],.int .i64 E])) w':=by
 rw [d_p he,d_p he,g_b he,d_p he];exact J100
theorem j_A {Q:Nat→Prop} {A B:List Int} {z E:Int} {C:List (List (Int×Int))} (he:E=0) {w w':World} {a a' q:Option Addr} {n c n' c' l d:Nat} (s1:SlP Q w' a n A) (s2:SlP Q w' a' n' B) (s3:BlP Q w' q l C) (hb:Below w.heap.size w w') :
  r_7 Q (okL E A) (okL E B) (okZ E z) (okL E C) E w (.returned (.tuple #[.agg #[.slice a n c,.slice a' n' c',.int .i64 z,.slice q l d],.int .i64 0])) w':=by
 subst he;exact ⟨_,_,_,_,_,_,_,_,_,rfl,s1,s2,s3,hb⟩
theorem h_D (Q:Nat→Prop) (a a' q:Option Addr) (n c n' c' l d:Nat) (ws ts:List Int) (D:Int) (bs:List (List (Int×Int))) (th x v:Int) (w:World) (P1:SlP Q w a n ws) (P2:SlP Q w a' n' ts) (PB:BlP Q w q l bs) (hQQ:∀ b,w.heap.size≤b→Q b) (hh:j_i ws ts D bs th=true) :
  Calls Tryz.prog 102 #[.agg #[.slice a n c,.slice a' n' c',.int .i64 D,.slice q l d],.int .i64 th,.int .i64 x,.int .i64 v] w (r_7 Q (okL (b_d ws ts D bs th x) (b_N ws D x v)) (okL (b_d ws ts D bs th x) ts) (okZ (b_d ws ts D bs th x) D) (okL (b_d ws ts D bs th x) (b_I D bs th x v)) (b_d ws ts D bs th x) w):=by
 have S1:=P1.sl;have S2:=P2.sl;have S:=PB.bl;have Hl:=Lib.hid S.1;obtain ⟨hm,h0,h1⟩:=d_e hh;obtain ⟨j,rfl⟩:=N120;have hjl:j < l:=by rw [←Hl.out];omega
 have hl8:l≤8:=by rw [←Hl.out];exact (a_X hm).2.1.2
 have i1:(0:Int)≤j:=by omega
 have i2:(j:Int) < l:=by omega
 have HE:=N92;have hlD:=N233;have hD8:D≤8:=(a_X hm).2.2.1.2;have HM:=Lib.hid (a_X hm).1;clear hh hm h0 h1
 go_enter Tryz.func102,Tryz.ntmps102
 go_wp2_with fail
 have hQ:∀ b,((w.alloc (Obj.cells #[.slice a n c,.slice a' n' c',.int .i64 D,.slice q l d] 30)).alloc (Obj.cells #[.slice none 0 0,.slice none 0 0,.int .i64 0,.slice none 0 0] 30)).heap.size≤b→Q b∧b≠w.heap.size∧b≠w.heap.size+1:=fun b h=>by simp at h;exact ⟨hQQ b (by omega),by omega,by omega⟩
 refine (c_E (fun b=>Q b∧b≠w.heap.size∧b≠w.heap.size+1) a a' n c n' c' ws ts x v _ (slA _ (slA _ S1)) (t_g _ (t_g _ (d_T (fun b q h=>⟨q,by omega,by omega⟩) P2))) hQ HM.out).mono ?_;rintro e w1 ⟨a2,n2,c2,a3,n3,c3,rfl,u1,u2,hb⟩;clear hQ;obtain ⟨ev,hev⟩:=mn (a_I ws ts x);have HEV:=Lib.hid hev;rw [hev];obtain ⟨W,hW⟩:=nm (w1.alloc (Obj.cells #[.slice a2 n2 c2,.slice a3 n3 c3] 26));have b1:=N11;have bW:Below w1.heap.size w1 W:=by rw [hW];exact (Below.refl _ _).alloc (Nat.le_refl _) _
 have X:=b_k bW (b_k hb (g_w _ (c_i (w:=w) w.heap.size rfl)));have R:=b_k bW (b_k hb (c_i (w:=w.alloc _) (w.heap.size+1) (by simp)));have m0:W.cell? ⟨w1.heap.size,0,none⟩=some (.slice a2 n2 c2):=by rw [hW];exact a_W _ _ _ rfl rfl
 have m1:W.cell? ⟨w1.heap.size,1,none⟩=some (.slice a3 n3 c3):=by rw [hW];exact a_W _ _ _ rfl rfl
 replace u1:=h_G bW u1;replace u2:=h_G bW u2;have hz:=c_9 R;have HB1:=Lib.hid (a_b b1 bW);have HW:=Lib.hid hW;clear hb b1 bW hev hW
 go_upto_region 2 with fail
 rw [←HW.out];have HRR:=Lib.hid R;obtain ⟨⟨x0,x1,x2,x3⟩,g0,g1,g2,g3⟩:=id X;obtain ⟨⟨r0,r1,r2,r3⟩,f0,f1,f2,f3⟩:=id R
 by_cases he:ev=0
 ·subst he
  by_cases hd:D=0
  ·subst hd;have HES:=N211;have HTW:=Lib.hid (show b_N ws 0 x v=c_q ws ts x v by rw [b_N,if_pos rfl,c_q,if_pos HEV.out]);have HTT:=Lib.hid (show c_p ws ts x=ts by rw [c_p,if_pos HEV.out]);have HTB:=Lib.hid (show b_I 0 bs j x v=bs from if_pos rfl);have H4:=Lib.hid (b_z R (.slice a2 n2 c2) (.slice a3 n3 c3) (.int .i64 0) (.slice q l d));clear X R
   go_wp2
   refine a_l ⟨w.heap.size+1,0,none⟩ rfl rfl rfl (a_7 _ _ _ _ _ _ H4.out.1.1 H4.out.1.2.1 H4.out.1.2.2.1 H4.out.1.2.2.2) ?_;have hbf:=a_U (g:=w.heap.size+1) HB1.out (by omega) (.slice a2 n2 c2) (.slice a3 n3 c3) (.int .i64 0) (.slice q l d);refine j_A HES.out ?_ ?_ ?_ hbf
   ·rw [HTW.out];exact a_n (fun b h=>h.1) (c_w _ (fun b h=>h.2.2) _ (c_w _ (fun b h=>h.2.2) _ (c_w _ (fun b h=>h.2.2) _ (c_w _ (fun b h=>h.2.2) _ u1))))
   ·rw [HTT.out] at u2;exact a_n (fun b h=>h.1) (c_w _ (fun b h=>h.2.2) _ (c_w _ (fun b h=>h.2.2) _ (c_w _ (fun b h=>h.2.2) _ (c_w _ (fun b h=>h.2.2) _ u2))))
   ·rw [HTB.out];exact n_p hbf PB
  ·have q1:(D==0)=false:=by simpa using hd
   have HDN:=Lib.hid hd;have BQ:=f_1 (Q':=fun b=>Q b∧b≠w.heap.size∧b≠w.heap.size+1) (fun b q h=>⟨q,by omega,by omega⟩) PB;obtain ⟨b,o,y,yc,rfl,k0,hcap,hp⟩:=f_i BQ hjl;obtain ⟨ps,hps⟩:=mn (bs.getD j []);rw [hps] at k0 hp hcap hlD;have HPS:=Lib.hid hps;obtain ⟨m,hm⟩:=mn (ps.length);rw [hm] at k0 hp hcap hlD;have HPL:=Lib.hid hm;replace k0:=a_u HB1.out k0;have hm8:m≤8:=by omega
   have hc0:=hcap.2.2;have ⟨HC0,HBQ⟩:=hh2 hc0 BQ;clear hps hm hcap hd hc0 BQ u1 u2 m0 m1
   by_cases hf:(m:Int)=D
   ·have HES:=N153;have q2:((m:Int)==D)=true:=by simpa using hf
    have HZ:=N29;clear hf X R
    go_wp2
    refine a_l ⟨w.heap.size+1,0,none⟩ rfl rfl rfl (a_7 _ _ _ _ _ _ HZ.out.1.1 HZ.out.1.2.1 HZ.out.1.2.2.1 HZ.out.1.2.2.2) ?_;rw [HES.out];exact l_Y (by decide) (a_U (g:=w.heap.size+1) HB1.out (by omega) _ _ _ _)
   ·have HES:=N154;have q2:((m:Int)==D)=false:=by simpa using hf
    have HTW:=Lib.hid (show b_N ws D x v=ws from if_neg HDN.out);have HTB:=N156;have HLN:=Lib.hid (show (ps++[(x,v)]).length=m+1 by rw [List.length_append,HPL.out];rfl);have HX:=Lib.hid X;clear hf X R
    go_wp2_with fail
    have hB0:=N107
    go_region_with (first | (go_at_call 128;refine (k_V y m yc ps x v _ (plB (by assumption) (plB HB1.out hp.pl)) (by omega) HC0.out).mono ?_;rintro e wx ⟨r,rc,rfl,hrc,u0,hbx⟩;rw [HLN.out] at hrc u0 ⊢;have x3':=a_u hbx x3;have hbx':=a_b (by assumption) hbx;have g3':=b_8 hbx x3 g3;have hzx:W.heap.size≤wx.heap.size:=hbx.size) | (go_at_call 105;refine (g_v (some ⟨b,o,none⟩) l d bs j r (m+1) rc (ps++[(x,v)]) _ (fun b=>Q b∧b≠w.heap.size∧b≠w.heap.size+1) (n_p hbx' (n_p HB1.out HBQ.out)) hl8 (o_8 (F:=W.heap.size) (fun z h1 h2=>⟨hQQ z (by omega),by omega,by omega⟩) u0) hrc (fun z h=>⟨hQQ z (by omega),by omega,by omega⟩)).mono ?_;rintro e wy ⟨r5,f2',rfl,u5,hby⟩;have x3'':=a_u hby x3';have g3'':=b_8 hby x3' g3';have hby':=a_b hbx' hby))
    all_goals
     have X1:=h_q (b_k hby (b_k hbx' HX.out)) (.slice r5 l f2');have R1:=c_b (o:=3) (b_k hby (b_k hbx' HRR.out)) (show w.heap.size≠w.heap.size+1 by omega) (.slice r5 l f2');have hbf1:Below w.heap.size w (wy.setCell ⟨w.heap.size,3,none⟩ (.slice r5 l f2')):=(a_b HB1.out hby').setCell (Nat.le_refl _) _;have HF1:=Lib.hid hbf1;have U5:=Lib.hid (a_G (a_2 (p:=⟨w.heap.size,3,none⟩) (x:=.slice r5 l f2') (fun b h=>h.2.1)) u5);have H4:=Lib.hid (b_z R1 (.slice a n c) (.slice a' n' c') (.int .i64 D) (.slice r5 l f2'));obtain ⟨⟨z0,z1,z2,z3⟩,-⟩:=X1;obtain ⟨⟨s0,s1,s2,s3⟩,t0,t1,t2,t3⟩:=R1;clear hbf1 u0 u5 hby hby' hbx hbx' hB0 x0 x1 x2 x3 x3' x3'' g0 g1 g2 g3 g3' g3'' r0 r1 r2 r3 f0 f1 f2 f3 hrc
     go_wp2
     refine a_l ⟨w.heap.size+1,0,none⟩ rfl rfl rfl (a_7 _ _ _ _ _ _ H4.out.1.1 H4.out.1.2.1 H4.out.1.2.2.1 H4.out.1.2.2.2) ?_;have hbf:=a_U (g:=w.heap.size+1) HF1.out (by omega) (.slice a n c) (.slice a' n' c') (.int .i64 D) (.slice r5 l f2');refine j_A HES.out ?_ ?_ ?_ hbf
     ·rw [HTW.out];exact h_G hbf P1
     ·exact h_G hbf P2
     ·rw [HTB.out,←i_d Hl.out];exact J69
 ·have q1:=N127;have HEN:=Lib.hid he;have HES:=Lib.hid (show b_d ws ts D bs j x=ev by rw [HE.out,HEV.out,if_neg he]);have HZ:=N29;clear he X R hlD hD8
  go_wp2
  refine a_l ⟨w.heap.size+1,0,none⟩ rfl rfl rfl (a_7 _ _ _ _ _ _ HZ.out.1.1 HZ.out.1.2.1 HZ.out.1.2.2.1 HZ.out.1.2.2.2) ?_;rw [HES.out];exact l_Y HEN.out (a_U (g:=w.heap.size+1) HB1.out (by omega) _ _ _ _)
theorem t_G {Q:Nat→Prop} {w:World} {a:Option Addr} {n:Nat} {bs:List (List (Int×Int))} (h:BlP Q w a n bs):BlP (fun b=>Q b∧b < w.heap.size) w a n bs:=by
 refine ⟨h.1,?_⟩
 by_cases h0:n=0
 ·exact .inl h0
 ·obtain ⟨b,o,e,hq,r⟩:=h.2.resolve_left h0;obtain ⟨q,c,h1,_⟩:=r 0 (by have:=h.1;omega);refine .inr ⟨b,o,e,⟨hq,b_c h1⟩,fun i hi=>?_⟩;obtain ⟨q',c',k1,k2,k3⟩:=r i hi;refine ⟨q',c',k1,k2,k3.1,?_⟩
  by_cases hz:(bs.getD i []).length=0
  ·exact .inl hz
  ·obtain ⟨b2,o2,e2,hq2,r2⟩:=k3.2.resolve_left hz;exact .inr ⟨b2,o2,e2,⟨hq2,b_c (r2 0 (by omega)).1⟩,r2⟩
theorem j_u (a a' q:Option Addr) (n c n' c' l d:Nat) (D:Int) (bs:List (List (Int×Int))) (j:Nat) (w:World) (Q:Nat→Prop) (S:BlP Q w q l bs) (hjl:j < l) (hl8:l≤8) (hb8:(bs.getD j []).length≤8) (hQ:∀ b,w.heap.size≤b→Q b) :
  Calls Tryz.prog 60 #[.agg #[.slice a n c,.slice a' n' c',.int .i64 D,.slice q l d],.int .i64 j] w (fun e w'=>∃ r f,e=.returned (.agg #[.slice a n c,.slice a' n' c',.int .i64 D,.slice r l f])∧BlP Q w' r l (bs.set j (e_z (bs.getD j [])))∧Below w.heap.size w w'):=by
 have Hl:=Lib.hid S.1;have i1:(0:Int)≤j:=by omega
 have i2:(j:Int) < l:=by omega
 have BQ:=a_H (Q':=fun b=>Q b∧b≠w.heap.size∧b≠w.heap.size+1) (fun b h=>⟨h.1,by omega,by omega⟩) (t_G S);obtain ⟨W,hW⟩:=nm ((w.alloc (Obj.cells #[.slice a n c,.slice a' n' c',.int .i64 D,.slice q l d] 30)).alloc (Obj.cells #[.slice none 0 0,.slice none 0 0,.int .i64 0,.slice none 0 0] 30));have b0:=N2;have X:=N88;have R:=N80;replace BQ:=n_p b0 BQ;have hz:=c_9 R;obtain ⟨b,o,y,yc,rfl,k0,hcap,hp⟩:=f_i BQ hjl;obtain ⟨ps,hps⟩:=mn (bs.getD j []);rw [hps] at k0 hp hcap hb8;have HPS:=Lib.hid hps;obtain ⟨m,hm⟩:=mn (ps.length);rw [hm] at k0 hp hcap hb8;have ⟨HQ,HBQ,HX,HRR,HB,HW,HP⟩:=hh7 hQ BQ X R b0 hW hp;clear hps hm hcap hQ BQ S b0 hW hp
 go_enter Tryz.func60,Tryz.ntmps60
 go_upto_region 1 with fail
 rw [←HW.out];obtain ⟨⟨x0,x1,x2,x3⟩,g0,g1,g2,g3⟩:=X;clear R;have hB0:=N107
 go_region_with (first | (go_at_call 106;refine (k_W y m yc ps _ (plB (by assumption) HP.out.pl) (by omega)).mono ?_;rintro e wx ⟨r,rc,rfl,hrc,u0,hbx⟩;have x3':=a_u hbx x3;have hbx':=a_b (by assumption) hbx;have g3':=b_8 hbx x3 g3;have hzx:W.heap.size≤wx.heap.size:=hbx.size) | (go_at_call 105;refine (g_v (some ⟨b,o,none⟩) l d bs j r (e_z ps).length rc (e_z ps) _ (fun b=>Q b∧b≠w.heap.size∧b≠w.heap.size+1) (n_p hbx' HBQ.out) hl8 (o_8 (F:=W.heap.size) (fun z h1 h2=>⟨HQ.out z (by omega),by omega,by omega⟩) u0) hrc (fun z h=>⟨HQ.out z (by omega),by omega,by omega⟩)).mono ?_;rintro e wy ⟨r5,f5,rfl,u5,hby⟩;have x3'':=a_u hby x3';have g3'':=b_8 hby x3' g3';have hby':=a_b hbx' hby))
 all_goals
  have X1:=h_q (b_k hby (b_k hbx' HX.out)) (.slice r5 l f5);have R1:=c_b (o:=3) (b_k hby (b_k hbx' HRR.out)) (show w.heap.size≠w.heap.size+1 by omega) (.slice r5 l f5);have hbf1:Below w.heap.size w (wy.setCell ⟨w.heap.size,3,none⟩ (.slice r5 l f5)):=(a_b HB.out hby').setCell (Nat.le_refl _) _;have HF1:=Lib.hid hbf1;have U5:=Lib.hid (a_G (a_2 (p:=⟨w.heap.size,3,none⟩) (x:=.slice r5 l f5) (fun b h=>h.2.1)) u5);have H4:=Lib.hid (b_z R1 (.slice a n c) (.slice a' n' c') (.int .i64 D) (.slice r5 l f5));obtain ⟨⟨z0,z1,z2,z3⟩,-⟩:=X1;obtain ⟨⟨s0,s1,s2,s3⟩,t0,t1,t2,t3⟩:=R1;clear hbf1 u0 u5 hby hby' hbx hbx' hB0 x0 x1 x2 x3 x3' x3'' g0 g1 g2 g3 g3' g3'' hrc
  go_wp2
  refine a_V ⟨w.heap.size+1,0,none⟩ rfl rfl rfl (a_7 _ _ _ _ _ _ H4.out.1.1 H4.out.1.2.1 H4.out.1.2.2.1 H4.out.1.2.2.2) ?_;have hbf:=a_U (g:=w.heap.size+1) HF1.out (by omega) (.slice a n c) (.slice a' n' c') (.int .i64 D) (.slice r5 l f5);refine ⟨_,_,rfl,?_,hbf⟩;rw [HPS.out,←i_d Hl.out];exact J69
theorem f_c {w:World} {g:Nat} {x y z u:Value} (h:d_6 w g x y z u) (x' y':Value):d_6 ((w.setCell ⟨g,0,none⟩ x').setCell ⟨g,1,none⟩ y') g x' y' z u:=by
 obtain ⟨⟨a,b,c,d⟩,e,f,i,j⟩:=h;have ne:=N192;refine ⟨⟨r_S _ _ (by rw [a];rfl),r_T _ _ (by rw [b];rfl),?_,?_⟩,?_,?_,?_,?_⟩
 ·rw [World.cell?_setCell_other _ _ _ _ (ne _ _ (by decide)),World.cell?_setCell_other _ _ _ _ (ne _ _ (by decide))];exact c
 ·rw [World.cell?_setCell_other _ _ _ _ (ne _ _ (by decide)),World.cell?_setCell_other _ _ _ _ (ne _ _ (by decide))];exact d
 all_goals (rw [World.frozen?_setCell,World.frozen?_setCell];assumption)
theorem e_7 (a:Addr) (fn:Fn) (xs ys:Array Value) (m:Mode) (P:Program) (w:World):(store a (.func fn xs ys) m).run P w=stored P w a (.func fn xs ys) m:=run_store P w a _ m rfl
attribute [local go_sem] e_7
theorem q_C (w:World) (b:Nat) (x y z:Value) (k0:w.cell? ⟨b,0,none⟩=some x) (k1:w.cell? ⟨b,1,none⟩=some y) (k2:w.cell? ⟨b,2,none⟩=some z):(loadVar 195 ⟨b,0,none⟩).run Tryz.prog w=.ok (.agg #[x,y,z]) w:=by
 simp [go_sem,k0,k1,k2]
theorem s_L (w:World):Calls Tryz.prog 163 #[] w fun e w'=>e=.returned (.agg #[.func (.func 169) #[] #[],.func (.func 170) #[] #[],.func (.func 171) #[] #[]])∧Below w.heap.size w w':=by
 go_enter Tryz.func163,Tryz.ntmps163
 go_wp2
 refine a_V ⟨w.heap.size,0,none⟩ rfl rfl rfl (q_C _ _ _ _ _ (by simp;rfl) (by simp;rfl) (by simp;rfl)) ?_;exact ⟨rfl,by go_grown⟩
def f_Z (v:Int) (w:World) (e:Ending) (w':World):Prop:=e=.returned (.int .i64 v)∧Below w.heap.size w w'
theorem e_2 {v z:Int} {w w':World} (h:v=z) (hb:Below w.heap.size w w'):f_Z v w (.returned (.int .i64 z)) w':=by subst h;exact ⟨rfl,hb⟩
theorem o_Z (word a b:Int) (w:World):Calls Tryz.prog 169 #[.int .i64 word,.int .i64 a,.int .i64 b] w (f_Z (d_y 0 word a b) w):=by
 by_cases h:word=a
 ·have HV:=Lib.hid (show d_y 0 word a b=b by rw [d_y,if_pos rfl,if_pos h]);have q:(word==a)=true:=by simpa using h
  exact J90
 ·have HV:=Lib.hid (show d_y 0 word a b=word by rw [d_y,if_pos rfl,if_neg h]);have q:(word==a)=false:=by simpa using h
  exact J90
theorem m_U (word a b:Int) (w:World):Calls Tryz.prog 170 #[.int .i64 word,.int .i64 a,.int .i64 b] w (f_Z (d_y 1 word a b) w):=by
 have HV:=Lib.hid (show d_y 1 word a b=a by rw [d_y,if_neg (by decide),if_pos rfl])
 go_enter Tryz.func170,Tryz.ntmps170
 go_wp2
 go_ret
 exact e_2 HV.out (Below.refl _ _)
theorem o_Y (word a b:Int) (w:World):Calls Tryz.prog 171 #[.int .i64 word,.int .i64 a,.int .i64 b] w (f_Z (d_y 2 word a b) w):=by
 have HV:=Lib.hid (show d_y 2 word a b=IntKind.i64.wrap (word+a) by rw [d_y,if_neg (by decide),if_neg (by decide)])
 go_enter Tryz.func171,Tryz.ntmps171
 go_wp2
 go_ret
 exact e_2 (HV.out.trans (IntWalk.i64_left _)) (Below.refl _ _)
end Go.Proofs.YtogdpojnbgeknaaGreatDoor
