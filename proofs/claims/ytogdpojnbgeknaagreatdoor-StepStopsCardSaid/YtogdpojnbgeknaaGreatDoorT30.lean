import Derived.Test.YtogdpojnbgeknaaGreatDoorT29
import Derived.Test.YtogdpojnbgeknaaGreatDoorT12
import Derived.Test.YtogdpojnbgeknaaGreatDoorT0
import Derived.Test.YtogdpojnbgeknaaGreatDoorT17
import Derived.Test.YtogdpojnbgeknaaGreatDoorT27
set_option maxRecDepth 100000
set_option maxHeartbeats 16000000
namespace Go.Proofs.YtogdpojnbgeknaaGreatDoor
open Go.ChangeShapes Go.WideShapes Go.ChangeAt Go.RowKit
def SlNQ (Q:Nat→Prop) (N:Nat) (w:World) (a:Option Addr) (n:Nat) (zs:List Int):Prop:=SlP (fun b=>b≠N∧Q b) w a n zs
theorem SlNQ.sl {Q:Nat→Prop} {N:Nat} {w:World} {a:Option Addr} {n:Nat} {zs:List Int} (h:SlNQ Q N w a n zs):Sl w a n zs:=SlP.sl h
theorem r_d {Q:Nat→Prop} {N:Nat} {w:World} {a:Option Addr} {n:Nat} {zs:List Int} (h:SlP Q w a n zs) (hN:w.heap.size≤N):SlNQ Q N w a n zs:=by
  refine ⟨h.1,?_⟩
  by_cases h0:n=0
  · exact .inl h0
  · obtain ⟨b,o,e,q,r⟩:=h.2.resolve_left h0
    refine .inr ⟨b,o,e,⟨?_,q⟩,r⟩;have:=b_c (r 0 (by rw [h.1];omega));simp only at this;omega
theorem r_c {Q:Nat→Prop} {N F:Nat} {w:World} {a:Option Addr} {n:Nat} {zs:List Int} (h:SlF F w a n zs) (hN:N < F) (hQ:∀ b,F≤b→Q b):SlNQ Q N w a n zs:=
  ⟨h.1,h.2.imp id fun ⟨b,o,e,hb,r⟩=>⟨b,o,e,⟨by omega,hQ b hb⟩,r⟩⟩
theorem m_9 {Q:Nat→Prop} {N:Nat} {w w':World} {a:Option Addr} {n:Nat} {zs:List Int} (hb:Below w.heap.size w w') (h:SlNQ Q N w a n zs):SlNQ Q N w' a n zs:=a_r (fun _ _ _ _ h=>a_u hb h) h
theorem l_7 {Q:Nat→Prop} {N:Nat} {w:World} {a:Option Addr} {n:Nat} {zs:List Int} (h:SlNQ Q N w a n zs) (i:Nat) (v:Value):SlNQ Q N (w.setCell ⟨N,i,none⟩ v) a n zs:=c_w ⟨N,i,none⟩ (fun _ h=>h.1) v h
def t_o (Q:Nat→Prop) (ts:List Int) (i:Nat) (tag:Int) (n:Nat) (W:World) (j:Nat) (v:Value) (wr:World):Prop:=
  f_h (i_W tag) ts i j=0∧(∃ p d,v=.slice p n d∧SlNQ Q (W.heap.size - 1) wr p n (j_1 ts i tag j))∧Below W.heap.size W wr
theorem i_G (b1 o1 b2 o2 n c c':Nat) (ws ts:List Int) (i k:Nat) (tag:Int) (w:World) (Q:Nat→Prop) (hQ:∀ b,w.heap.size≤b→Q b) (hg:tag=1∨tag=2)
    (S1:SlP Q w (some ⟨b1,o1,none⟩) n ws) (S2:SlP Q w (some ⟨b2,o2,none⟩) n ts) (hn:ws.length=n) (hn':ts.length=n) (R2:Row w b2 o2 ts) (hm:d_g ws ts=true) (hk:1≤k) (hik:i+k≤n) (z4:n≤160) :
    Calls Tryz.prog 104 #[.agg #[.slice (some ⟨b1,o1,none⟩) n c,.slice (some ⟨b2,o2,none⟩) n c'],.int .i64 i,.int .i64 k,.int .i64 tag] w (j_4 Q (c_2 ws ts i k tag) (c_L ws ts i k tag) (c_C ws ts i k tag) w):=by
  have ⟨Hn',Hm⟩:=hh2 hn' hm;have HT:=Lib.hid (fun j (hj:j < ts.length)=>g_G hm j (by rw [hn,←hn'];exact hj));have HI:b_5 ws.length i k=true:=by simp [b_5];omega
  have ⟨HI',S1',S2',HG,HQQ⟩:=hh5 HI S1 S2 hg hQ;clear hn hn' hm HI S1;have t0:decide ((k:Int) < 1)=false:=by simp;omega
  have t1:decide ((i:Int) < 0)=false:=by simp
  have t2:decide (n≤i)=false:=by simp;omega
  have t3:decide ((n:Int) - i < k)=false:=by simp;omega
  have b0:(tag=1∧(tag==1)=true∧(tag==2)=false)∨(tag=2∧(tag==1)=false∧(tag==2)=true):=by
    rcases hg with rfl | rfl <;> simp
  clear hg
  rcases b0 with ⟨h1,b1',b2'⟩ | ⟨h1,b1',b2'⟩
  all_goals
    have HF:=Lib.hid h1;clear h1
    go_enter Tryz.func104,Tryz.ntmps104
    go_wp2
    obtain ⟨W,hW⟩:=nm ((w.alloc (Obj.cells #[.slice (some ⟨b1,o1,none⟩) n c,.slice (some ⟨b2,o2,none⟩) n c'] 26)).alloc (Obj.cells #[.slice none 0 0,.slice none 0 0] 26));have m0:W.cell? ⟨w.heap.size,0,none⟩=some (.slice (some ⟨b1,o1,none⟩) n c):=by rw [hW];exact b_a _ (by simp)
    have m1:W.cell? ⟨w.heap.size,1,none⟩=some (.slice (some ⟨b2,o2,none⟩) n c'):=by rw [hW];exact b_a _ (by simp)
    have m2:=N221;have m3:=N222;have m4:W.frozen? ⟨w.heap.size+1,0,none⟩=false:=by rw [hW];exact b_C (a_4 _ _ _ (by simp))
    have m5:W.frozen? ⟨w.heap.size+1,1,none⟩=false:=by rw [hW];exact b_C (a_4 _ _ _ (by simp))
    have hbW:=N2;have hWs:W.heap.size=w.heap.size+1+1:=by rw [hW];simp
    rw [←hW];have ⟨M0,M1,M2,M3,M4,M5,HBW,HWS⟩:=hh8 m0 m1 m2 m3 m4 m5 hbW hWs;clear hW m0 m1 m2 m3 m4 m5 hbW hWs
    go_loopw [10,11] (fun v s wr=>∃ j:Nat,j≤k∧s=.int .i64 ((i+j:Nat):Int)∧Hid (t_o Q ts i tag n W j v wr)) (fun _ s _=>i+k - (intOf s).toNat)
    case atStart=>exact ⟨0,by omega,rfl,rfl,⟨_,_,rfl,m_9 HBW.out (r_d S2'.out (by rw [HWS.out];omega))⟩,Below.refl _ _⟩
    case round =>
      obtain ⟨j,hj,rfl,hr⟩:=hrel;obtain ⟨p,d,rfl,hp⟩:=hr.out.2.1;have HB:=Lib.hid hr.out.2.2;have HP:=Lib.hid hp;have HR:=Lib.hid hr.out.1;have n0:=a_u HB.out M0.out;have n1:=a_u HB.out M1.out;have n2:=a_u HB.out M2.out;have n3:=a_u HB.out M3.out;have n4:wr.frozen? ⟨w.heap.size+1,0,none⟩=false:=(HB.out.frozen (b_c M2.out)).trans M4.out;have n5:wr.frozen? ⟨w.heap.size+1,1,none⟩=false:=(HB.out.frozen (b_c M3.out)).trans M5.out;have hbw:=HBW.out.trans (HB.out.mono (by rw [HWS.out];omega));clear hp hr
      by_cases hlt:j < k
      · have hij:i+j < n:=by omega
        have g1:=a_u hbw (R2 (i+j) (by rw [Hn'.out];exact hij));have HT1:=HT.out (i+j) (by rw [Hn'.out];exact hij);have HST:=Lib.hid (j_q (k:=k) Hm.out HI'.out HG.out hlt HR.out);have HGO:=Lib.hid (fun (he:i_W tag (ts.getD (i+j) 0)=0)=>show f_h (i_W tag) ts i (j+1)=0 by simp only [f_h];rw [if_pos HR.out,he])
        generalize ts.getD (i+j) 0=tv at g1 HT1 HGO HST
        have HV:tv=0∨tv=1∨tv=2:=by omega
        clear HT1
        by_cases hz:i_W tag tv=0
        · have HS1:=Lib.hid (HGO.out hz)
          have HN:=Lib.hid (show (j_1 ts i tag j).length=n by rw [d_i];exact Hn'.out)
          rcases HV with rfl | rfl | rfl
          all_goals first
            | (exfalso;revert hz;rw [HF.out];decide)
            | (clear hz
               go_wp2_with fail
               rw [show ((i:Int)+(j:Int))=((i+j:Nat):Int) by omega];refine (l_v p n d _ ((i+j:Nat):Int) tag _ HP.out.sl (by omega)).mono ?_;rw [n_n];rintro e w5 ⟨p5,d5,rfl,s5,hb5⟩;have hl5:(j_1 ts i tag (j+1)).length=n:=by rw [d_i];exact Hn'.out
               rw [hl5] at s5 ⊢;have HB5:=Lib.hid hb5;have HS5:=Lib.hid (r_c (N:=W.heap.size - 1) s5 (by have:=HB.out.size;have:=HWS.out;omega) (fun b hb=>HQQ.out b (by have:=HB.out.size;have:=HWS.out;omega)));have HBB:=Lib.hid (a_b HB.out hb5);clear hb5 s5 hl5 n0 n1 n2 n3 n4 n5 g1
               go_wp2
               go_roundw
               case rel=>first | exact ⟨j+1,by omega,by go_num,HS1.out,⟨_,_,rfl,HS5.out⟩,HBB.out⟩ | ((repeat apply Exists.intro);exact ⟨⟨j+1,by omega,by go_num,HS1.out,⟨_,_,rfl,HS5.out⟩,HBB.out⟩,rfl⟩)
               case measure=>simp [intOf];omega)
        · obtain ⟨x1,x2,x3⟩:=HST.out hz
          have ⟨X1,X2,X3⟩:=hh3 x1 x2 x3;clear x1 x2 x3;have HZ:=Lib.hid hz;clear hz
          rcases HV with rfl | rfl | rfl
          all_goals first
            | (exfalso;refine HZ.out ?_;rw [HF.out];decide)
            | (go_wp2
               refine a_l ⟨w.heap.size+1,0,none⟩ rfl rfl rfl (c_B _ _ _ _ (by go_cell_look) (by go_cell_look)) ?_;rw [X1.out,X2.out,X3.out,HF.out];exact ⟨_,_,_,_,_,_,rfl,c_7 _ _,c_7 _ _,by go_grown⟩)
      · obtain rfl:j=k:=by omega
        have HDN:=Lib.hid (j_p Hm.out HI'.out HG.out HR.out)
        go_wp2
        refine a_l ⟨w.heap.size+1,0,none⟩ rfl rfl rfl (c_B _ _ _ _ (by go_cell_look) (by go_cell_look)) ?_;rw [HDN.out.1,HDN.out.2.1,HDN.out.2.2];have HP':SlNQ Q (w.heap.size+1) wr p n (j_1 ts i tag j):=by have:=HP.out;rw [HWS.out] at this;exact this
        have hF:Below w.heap.size w ((wr.setCell ⟨w.heap.size+1,0,none⟩ (.slice (some ⟨b1,o1,none⟩) n c)).setCell ⟨w.heap.size+1,1,none⟩ (.slice p n d)):=(hbw.setCell (by simp) _).setCell (by simp) _;exact ⟨_,_,_,_,_,_,rfl,a_r (fun b o v _ h=>a_u hF h) S1'.out,a_n (fun b h=>h.2) (l_7 (l_7 HP' _ _) _ _),hF⟩
theorem j_x (a a':Option Addr) (n c n' c':Nat) (ws ts:List Int) (i k tag:Int) (w:World) (Q:Nat→Prop) (hQ:∀ b,w.heap.size≤b→Q b) (hg:tag=1∨tag=2) (S1:SlP Q w a n ws) (S2:SlP Q w a' n' ts) (hi:(Lit.int .i64 i).wf=true) (hm:d_g ws ts=true) :
    Calls Tryz.prog 104 #[.agg #[.slice a n c,.slice a' n' c'],.int .i64 i,.int .i64 k,.int .i64 tag] w (j_4 Q (c_2 ws ts i k tag) (c_L ws ts i k tag) (c_C ws ts i k tag) w):=by
  have hb0:=N79;obtain ⟨hbl,hbh⟩:=hb0;obtain ⟨z0,z1,z2⟩:=c_s hm;have hn:=S1.1;have hn':=S2.1;obtain rfl:n'=n:=by omega
  obtain ⟨-,b1,o1,rfl,R1⟩:=c_V S1.sl (by omega);obtain ⟨-,b2,o2,rfl,R2⟩:=c_V S2.sl (by omega)
  by_cases hw:b_5 n' i k=true
  · simp only [b_5,decide_eq_true_eq] at hw
    obtain ⟨i,rfl⟩:=Int.eq_ofNat_of_zero_le hw.2.1;obtain ⟨k,rfl⟩:=N245;exact i_G b1 o1 b2 o2 n' c c' ws ts i k tag w Q hQ hg S1 S2 hn hn' R2 hm (by omega) (by omega) (by omega)
  · have z4:n'≤160:=by omega
    have e:c_C ws ts i k tag=3:=by rw [c_C,if_pos ⟨hm,hg⟩,if_neg (by rw [hn];exact hw)]
    have E:=N42;rw [E.out.1,E.out.2.1,E.out.2.2]
    have hw':k < 1∨(1≤k∧i < 0)∨(1≤k∧0≤i∧(n':Int)≤i)∨(1≤k∧0≤i∧i < n'∧(n':Int) - i < k):=by
      simp only [b_5,decide_eq_true_eq] at hw;omega
    clear e hm hw hg z0 z1 z2 hn hn' R1 R2 S1 S2 hi
    rcases hw' with h | ⟨h,h'⟩ | ⟨h,h',h''⟩ | ⟨h,h',h'',h3⟩
    all_goals
      go_enter Tryz.func104,Tryz.ntmps104
      go_wp2
      refine a_l ⟨w.heap.size+1,0,none⟩ rfl rfl rfl (c_B _ _ _ _ (by simp;rfl) (by simp;rfl)) ?_;exact ⟨_,_,_,_,_,_,rfl,c_7 _ _,c_7 _ _,by go_grown⟩
end Go.Proofs.YtogdpojnbgeknaaGreatDoor
namespace Go.Proofs.YtogdpojnbgeknaaGreatDoor
open Go.ChangeShapes Go.WideShapes Go.ChangeAt Go.RowKit
open Gen
open Lib (hid)
abbrev inL (a b c d:Int):List Value:=[.int .i64 a,.int .i64 b,.int .i64 c,.int .i64 d]
theorem mem_range {w:World} {g:Nat} {L:WoL} {D:Int} (X:a_p w g (woC L D)):w.rangeAt g 1 [.slice L.ws.a L.ws.n L.ws.c,.slice L.ts.a L.ts.n L.ts.c]:=fun j v hj=>(X (1+j) v (by match j,hj with | 0,hj=>exact hj | 1,hj=>exact hj)).1
def WoL.setMem (L:WoL) (p q:Sp):WoL:={ L with ws:=p,ts:=q }
theorem h_5 {Q:Nat→Prop} {w:World} {L:WoL} {X:Wo} (R:RWo Q w L X) {p q:Sp} {ws ts:List Int} (h1:SlP Q w p.a p.n ws) (h2:SlP Q w q.a q.n ts):RWo Q w (L.setMem p q) { X with ws:=ws,ts:=ts }:=
 ⟨R.co,h1,h2,R.bs,R.th,R.ev,R.cco,R.cth,R.cev⟩
abbrev inV (i:Ins):Value:=.agg #[.int .i64 i.1,.int .i64 i.2.1,.int .i64 i.2.2.1,.int .i64 i.2.2.2]
def l_t (Q1:Nat→Prop) (h:Nat) (V:World) (L:WoL) (ra rb:Nat) (op va vb tag me:Int) (MW MT:List Int):b_p:=[isV 0 (.pointer (some ⟨h,1,none⟩)),isV 1 (.pointer (some ⟨h,1,none⟩)),isV 2 (.agg #[.slice L.ws.a L.ws.n L.ws.c,.slice L.ts.a L.ts.n L.ts.c]),isV 3 (.pointer (some ⟨h+1,1,none⟩)),isV 4 (.int .i64 ra),isV 5 (.pointer (some ⟨h+3,1,none⟩)),isV 6 (.pointer (some ⟨h+3,1+ra,none⟩)),isV 7 (.int .i64 va),isV 8 (.pointer (some ⟨h+1,2,none⟩)),isV 9 (.int .i64 rb),isV 10 (.pointer (some ⟨h+3,1,none⟩)),isV 11 (.pointer (some ⟨h+3,1+rb,none⟩)),isV 12 (.int .i64 vb),isV 13 (.pointer (some ⟨h+1,0,none⟩)),isV 14 (.int .i64 op),isV 15 (.int .i64 tag),([16],fun l w=>∃ a n c a' n' c',l=[.tuple #[.agg #[.slice a n c,.slice a' n' c'],.int .i64 me]]∧SlP Q1 w a n MW∧SlP Q1 w a' n' MT),([17,16],fun l _=>∃ a n c a' n' c',l=[.tuple #[.agg #[.slice a n c,.slice a' n' c'],.int .i64 me],.tuple #[.agg #[.slice a n c,.slice a' n' c'],.int .i64 me]]),([18,16],fun l _=>∃ a n c a' n' c',l=[.agg #[.slice a n c,.slice a' n' c'],.tuple #[.agg #[.slice a n c,.slice a' n' c'],.int .i64 me]]),isV 19 (.int .i64 me),([20],fun l w=>∃ g,l=[.pointer (some ⟨g,0,none⟩)]∧V.heap.size≤g∧∃ xs,a_p w g xs∧xs.length=2),([20,16],fun l w=>∃ g a n c a' n' c',l=[.pointer (some ⟨g,0,none⟩),.tuple #[.agg #[.slice a n c,.slice a' n' c'],.int .i64 me]]∧V.heap.size≤g∧a_p w g [.slice a n c,.slice a' n' c']∧SlP (fun b=>Q1 b∧b≠g) w a n MW∧SlP (fun b=>Q1 b∧b≠g) w a' n' MT),isV 22 (.int .i64 me)]
theorem m_D (Q1:Nat→Prop) (h:Nat) (V:World) (L:WoL) (ra rb:Nat) (op va vb tag me:Int) (MW MT:List Int):c_j (l_t Q1  h  V  L  ra rb  op va vb tag me  MW MT ):=a_d<|a_d<|a_d<|a_d<|a_d<|a_d<|a_d<|a_d<|a_d<|a_d<|a_d<|a_d<|a_d<|a_d<|a_d<|a_d<|a_v (fun _ _ _ hb h=>by obtain ⟨a,n,c,a',n',c',h1,h2,h3⟩:=h;exact ⟨a,n,c,a',n',c',h1,a_r (fun _ _ _ _ h=>a_u hb h) h2,a_r (fun _ _ _ _ h=>a_u hb h) h3⟩)<|a_v (fun _ _ _ _ h=>h)<|a_v (fun _ _ _ _ h=>h)<|a_d<|a_v (fun _ _ _ hb h=>by obtain ⟨g,h1,h2,xs,h3,h4⟩:=h;exact ⟨g,h1,h2,xs,a_i hb h3,h4⟩)<|a_v (fun _ _ _ hb h=>by obtain ⟨g,a,n,c,a',n',c',h1,h2,h3,h4,h5⟩:=h;exact ⟨g,a,n,c,a',n',c',h1,h2,a_i hb h3,a_r (fun _ _ _ _ h=>a_u hb h) h4,a_r (fun _ _ _ _ h=>a_u hb h) h5⟩)<|a_d<|b_u
theorem n_5 (Q1:Nat→Prop) (h:Nat) (V:World) (L:WoL) (ra rb:Nat) (op va vb tag me:Int) (MW MT:List Int):∀ j args w w',j≠16→j≠20→j≠21→b_x (l_t Q1  h  V  L  ra rb  op va vb tag me  MW MT ) j args w→b_x (l_t Q1  h  V  L  ra rb  op va vb tag me  MW MT ) j args w':=by
 intro j args w w' n0 n1 n2 h
 match j with
 | 0=>exact h
 | 1=>exact h
 | 2=>exact h
 | 3=>exact h
 | 4=>exact h
 | 5=>exact h
 | 6=>exact h
 | 7=>exact h
 | 8=>exact h
 | 9=>exact h
 | 10=>exact h
 | 11=>exact h
 | 12=>exact h
 | 13=>exact h
 | 14=>exact h
 | 15=>exact h
 | 16=>exact absurd rfl n0
 | 17=>exact h
 | 18=>exact h
 | 19=>exact h
 | 20=>exact absurd rfl n1
 | 21=>exact absurd rfl n2
 | 22=>exact h
 | _+23=>exact trivial
theorem j_o (Q:Nat→Prop) (L:WoL) (X:Wo) (j:Nat) (i:Ins) (w:World) (R:RWo Q w L X) (hj:j < L.th.n) (hQ:∀ b,w.heap.size≤b→Q b) (hn:L.th.n≤1000) (hm:d_g X.ws X.ts=true) (ha:0≤i.2.1∧i.2.1≤7) (hb:0≤i.2.2.1∧i.2.2.1≤7) (ho:i.1=24∨i.1=25) (hwf:∀ k,k < 8→(Lit.int .i64 ((thW X j).r k)).wf=true) (hpc:0≤(thW X j).pc∧(thW X j).pc≤1000) :
  Calls Tryz.prog 59 #[woV L X.D,.int .i64 j,inV i] w (b_B Q (i_x X j (thW X j) i) w):=by
 obtain ⟨Y,hY⟩:=mn (i_x X j (thW X j) i);rw [hY];obtain ⟨D,hD⟩:=mn (X.D);rw [hD];obtain ⟨tb,tq,t,ta,tc,qa,qc,htl,htt,-,T,hr⟩:=d_b R.th hj;have htw:=N53;rw [htw] at hY;have HTW:=hid htw;rw [htw] at hwf hpc;obtain ⟨op,A,B,C⟩:=i;unfold i_x at hY;simp only at hY ha hb ho;obtain ⟨ra,hra,hra8⟩:=a_5 ha;obtain ⟨rb,hrb,hrb8⟩:=a_5 hb;subst hra hrb;have HWF:=hid (hwf ra hra8);have ⟨HM,HP⟩:=hh2 hm hpc;have HTG:=hid (show op - 23=1∨op - 23=2 by omega);have hop:wrap64 (op - 23)=op - 23:=IntWalk.wrap64_in _ (by omega);rw [show rgt t (ra:Int)=t.r ra from rfl,show rgt t (rb:Int)=t.r rb from rfl] at hY;obtain ⟨va,hva⟩:=mn (t.r ra);obtain ⟨vb,hvb⟩:=mn (t.r rb);obtain ⟨tag,htag⟩:=mn (op - 23);rw [htag] at hY HTG hop;have hop2:wrap64 (op - 23)=tag:=by rw [htag];exact hop
 rw [hva,hvb] at hY;obtain ⟨me,hme⟩:=mn (c_C X.ws X.ts va vb tag);rw [hme] at hY;have HVA:=hid (And.intro hva hvb);have HME:=hid hme;have i3:(0:Int)≤ra:=by omega
 have i4:(ra:Int) < 8:=by omega
 have i5:(0:Int)≤rb:=by omega
 have i6:(rb:Int) < 8:=by omega
 have HOP:=hid hop2;rw [hva] at HWF;clear hwf hm hpc ha hb ho hop htag hva hvb hme hop2;obtain ⟨tn,htn⟩:=mn (t.fs.length);obtain ⟨tm,htm⟩:=mn (t.lf.length);have HTN:=hid (And.intro htn htm);obtain ⟨Q1,hQ1⟩:∃ Q1:Nat→Prop,Q1=fun b=>Q b∧(b < w.heap.size∨w.heap.size+4≤b):=⟨_,rfl⟩
 have HQ1:=hid hQ1;have HQ2:=N56;have HR1:=N41;have HT1:=N36;obtain ⟨W,hW⟩:=nm (((w.alloc (Obj.cells (woC L D).toArray 33)).alloc (Obj.cells (inL op ra rb C).toArray 66)).alloc (Obj.cells woZ.toArray 33));have HX:=N70;have HI:=hid (show a_p W (w.heap.size+1) (inL op ra rb C) by rw [hW];exact a_s _ (a_e _ _ (by simp)));have HZ:=N83;have HB:=N3;have HSZ:=N123;have HRA:=N28;have ⟨HW,HY,HTL,HD,HN⟩:=hh5 hW hY htl hD hn;rw [htn,htm] at HT1;have i1:(0:Int)≤j:=by omega
 have i2:(j:Int) < L.th.n:=by omega
 clear htl hY hD htt T hr htn htm hQ1 R hW htw hQ hn;unfold woV
 go_enter Tryz.func59,Tryz.ntmps59
 go_upto_region 1 with fail
 rw [←HW.out];obtain ⟨k5,-⟩:=HX.out 5 _ rfl;rw [HTL.out] at k5
 go_upto_region 2 with (first | (refine wpList_load_mid rfl 46 _ rfl tb (tq+j*13) rfl (thC t ta tn tc qa tm qc) _ HRA.out Tryz.underlying46 rfl (by kernel_rfl) ?_) | (refine a_c rfl 46 _ _ rfl W.heap.size (thC t ta tn tc qa tm qc).toArray rfl rfl _ (a_e thN W.heap.size rfl) rfl (by kernel_rfl) (a_K _ _ _ _ _ _ _) ?_;intro V HV))
 rw [HSZ.out];simp only [Act.put];have HX2:=N31;have HI2:=hid (show a_p V (w.heap.size+1) (inL op ra rb C) by rw [HV.out];exact a_j (by have:=HSZ.out;omega) (a_s _ HI.out));have HZ2:=N114;have HT2:=N91;have HB2:=N27;have HS2:=N155;clear HV HX HZ HB HSZ HRA HW k5 i1 i2 HI;obtain ⟨x1,-⟩:=HX2.out 1 _ rfl;obtain ⟨x2,-⟩:=HX2.out 2 _ rfl;obtain ⟨y0,-⟩:=HI2.out 0 _ rfl;obtain ⟨y1,-⟩:=HI2.out 1 _ rfl;obtain ⟨y2,-⟩:=HI2.out 2 _ rfl;obtain ⟨za,-⟩:=HT2.out (1+ra) _ (c_H t.r ra hra8 _ _);obtain ⟨zb,-⟩:=HT2.out (1+rb) _ (c_H t.r rb hrb8 _ _);have HRV:=hid (show RWo (fun b=>Q1 b∧b < V.heap.size) V L X from c_e (b_G HB2.out HR1.out));have HT3:=N64;rw [HVA.out.1] at za;rw [HVA.out.2] at zb
 have HMK:=hid (show ∀ u,Below V.heap.size V u→Calls Tryz.prog 104 #[.agg #[.slice L.ws.a L.ws.n L.ws.c,.slice L.ts.a L.ts.n L.ts.c],.int .i64 va,.int .i64 vb,.int .i64 tag] u (fun e w'=>∃ a n c a' n' c',e=.returned (.tuple #[.agg #[.slice a n c,.slice a' n' c'],.int .i64 me])∧SlP (fun b=>Q1 b∧(b < V.heap.size∨u.heap.size≤b)) w' a n (c_2 X.ws X.ts va vb tag)∧SlP (fun b=>Q1 b∧(b < V.heap.size∨u.heap.size≤b)) w' a' n' (c_L X.ws X.ts va vb tag)∧Below u.heap.size u w') from fun u hu=>by
  have h:=j_x L.ws.a L.ts.a L.ws.n L.ws.c L.ts.n L.ts.c X.ws X.ts va vb tag u (fun b=>Q1 b∧(b < V.heap.size∨u.heap.size≤b)) (fun b hb=>⟨HQ2.out.2.2 b (by have:=hu.size;have:=HS2.out;omega),.inr hb⟩) HTG.out (a_r (fun _ _ _ _ h=>a_u hu h) (a_n (fun b h=>⟨h.1,.inl h.2⟩) HRV.out.ws)) (a_r (fun _ _ _ _ h=>a_u hu h) (a_n (fun b h=>⟨h.1,.inl h.2⟩) HRV.out.ts)) HWF.out HM.out;rw [HME.out] at h;exact h)
 have hG:=m_D Q1 w.heap.size V L ra rb op va vb tag me (c_2 X.ws X.ts va vb tag) (c_L X.ws X.ts va vb tag);refine d_k [some 16,some 17,some 18,some 19,some 20,some 21,some 22,some 23,some 24,some 25,some 26,some 27,some 28,some 29,some 30,some 31,some 32,some 15,some 33,some 34,some 8,none,some 9] (fun w'=>Below V.heap.size V w') (l_t Q1 w.heap.size V L ra rb op va vb tag me (c_2 X.ws X.ts va vb tag) (c_L X.ws X.ts va vb tag)) 16 20 (fun x y w=>∃ a n c a' n' c' e g,x=.tuple #[.agg #[.slice a n c,.slice a' n' c'],.int .i64 e]∧y=.pointer (some ⟨g,0,none⟩)∧SlP (fun b=>Q1 b∧b≠g) w a n (c_2 X.ws X.ts va vb tag)∧SlP (fun b=>Q1 b∧b≠g) w a' n' (c_L X.ws X.ts va vb tag)) (by kernel_rfl) (by kernel_rfl) (by decide) rfl ((Below.refl _ _).drew) ?_ ?_
 ·show StepsL _ _ _ _ _ _ _
  refine InvD.c (fun _ _ w1 C _ hK=>oR C hK (h:=by simp [execOp,go_sem,C.o 3 (.pointer (some ⟨w.heap.size,0,none⟩))])) ?_;refine InvD.c (fun _ _ w1 C _ hK=>oR C hK (h:=by simp [execOp,go_sem,C.i 0])) ?_;refine InvD.c (fun a1 vals w1 C K hK=>?_) ?_
  ·have e0:=C.i 1;exact a_g rfl (wp_load_mid 26 _ rfl (w.heap.size) (1) ((a_M a1 _).symm.trans e0) [.slice L.ws.a L.ws.n L.ws.c,.slice L.ts.a L.ts.n L.ts.c] _ (mem_range (a_i C.base HX2.out)) Tryz.underlying26 rfl (by kernel_rfl) (c_Q hK C rfl rfl))
  refine InvD.c (fun _ _ w1 C _ hK=>oR C hK (h:=by simp [execOp,go_sem,C.o 5 (.pointer (some ⟨w.heap.size+1,0,none⟩))])) ?_;refine InvD.c (fun _ _ w1 C _ hK=>oR C hK (h:=by simp [execOp,go_sem,C.i 3,a_u C.base y1])) ?_;refine InvD.c (fun _ _ w1 C _ hK=>oR C hK (h:=by simp [execOp,go_sem,C.o 7 (.pointer (some ⟨w.heap.size+3,0,none⟩))])) ?_;refine InvD.c (fun _ _ w1 C _ hK=>oR C hK (h:=by simp [execOp,go_sem,C.i 4,C.i 5,i3,i4])) ?_;refine InvD.c (fun _ _ w1 C _ hK=>oR C hK (h:=by simp [execOp,go_sem,C.i 6,a_u C.base za])) ?_;refine InvD.c (fun _ _ w1 C _ hK=>oR C hK (h:=by simp [execOp,go_sem,C.o 5 (.pointer (some ⟨w.heap.size+1,0,none⟩))])) ?_;refine InvD.c (fun _ _ w1 C _ hK=>oR C hK (h:=by simp [execOp,go_sem,C.i 8,a_u C.base y2])) ?_;refine InvD.c (fun _ _ w1 C _ hK=>oR C hK (h:=by simp [execOp,go_sem,C.o 7 (.pointer (some ⟨w.heap.size+3,0,none⟩))])) ?_;refine InvD.c (fun _ _ w1 C _ hK=>oR C hK (h:=by simp [execOp,go_sem,C.i 9,C.i 10,i5,i6])) ?_;refine InvD.c (fun _ _ w1 C _ hK=>oR C hK (h:=by simp [execOp,go_sem,C.i 11,a_u C.base zb])) ?_;refine InvD.c (fun _ _ w1 C _ hK=>oR C hK (h:=by simp [execOp,go_sem,C.o 5 (.pointer (some ⟨w.heap.size+1,0,none⟩))])) ?_;refine InvD.c (fun _ _ w1 C _ hK=>oR C hK (h:=by simp [execOp,go_sem,C.i 13,a_u C.base y0])) ?_;refine InvD.c (fun _ _ w1 C _ hK=>oR C hK (h:=by simp [execOp,go_sem,C.i 14,HOP.out,IntWalk.i64_left])) ?_;refine InvD.c (fun a1 vals w1 C K hK=>?_) ?_
  ·have e0:=C.i 2;have e1:=C.i 7;have e2:=C.i 12;have e3:=C.i 15;rw [a_M] at e0 e1 e2 e3;refine a_g rfl (a_O _ _ _ rfl 104 rfl [.agg #[.slice L.ws.a L.ws.n L.ws.c,.slice L.ts.a L.ts.n L.ts.c],.int .i64 va,.int .i64 vb,.int .i64 tag] (by simp only [List.map_cons,List.map_nil,e0,e1,e2,e3]) (by kernel_rfl) ((HMK.out w1 C.base).mono ?_));rintro e9 w2 ⟨a,n,c,a',n',c',rfl,h1,h2,hb2⟩;refine ⟨_,rfl,hK _ w2 ⟨a,n,c,a',n',c',rfl,a_n (fun _ h=>h.1) h1,a_n (fun _ h=>h.1) h2⟩ (a_b C.base hb2) (fun j _ h=>hG j _ _ _ hb2 h) (fun h=>absurd rfl h) (fun _ _ hy=>?_) (fun e=>absurd e (by decide)) (fun _ e=>absurd e (by decide))⟩;obtain ⟨g,hg1,hg2,xs,hx,hx2⟩:=hy;have hlt:=a_P hx (by omega);exact ⟨a,n,c,a',n',c',me,g,rfl,List.head_eq_of_cons_eq hg1,a_n (fun b h=>⟨h.1,by have:=h.2;omega⟩) h1,a_n (fun b h=>⟨h.1,by have:=h.2;omega⟩) h2⟩
  refine InvD.c (fun a1 vals w1 C K hK=>?_) ?_
  ·have e0:=C.t 16 32 rfl rfl;obtain ⟨a,n,c,a',n',c',h1,-⟩:=C.says 16 rfl;refine a_g rfl (a_x (v:=vals 16) ?_ (c_Q hK C rfl ⟨a,n,c,a',n',c',by show [vals 16,vals 16]=_;rw [List.head_eq_of_cons_eq h1]⟩));simp [execOp,go_sem,e0]
  refine InvD.c (fun a1 vals w1 C K hK=>?_) ?_
  ·have e0:=C.t 17 15 rfl rfl;obtain ⟨a,n,c,a',n',c',h1⟩:=C.says 17 rfl;have h2:=N158;have h3:=N77;rw [h2] at e0;refine a_g rfl (a_x (v:=.agg #[.slice a n c,.slice a' n' c']) ?_ (c_Q hK C rfl (⟨a,n,c,a',n',c',by show [.agg #[.slice a n c,.slice a' n' c'],vals 16]=_;rw [h3]⟩)));simp [execOp,go_sem,e0]
  refine InvD.c (fun a1 vals w1 C K hK=>?_) ?_
  ·have e0:=C.t 17 15 rfl rfl;obtain ⟨a,n,c,a',n',c',h1⟩:=C.says 17 rfl;have h2:=N158;have h3:=N77;rw [h2] at e0;refine a_g rfl (a_x (v:=.int .i64 me) ?_ (c_Q hK C rfl (rfl)));simp [execOp,go_sem,e0]
  refine InvD.c (fun a1 vals w1 C K hK=>?_) ?_
  ·have hbs:=C.base.size;have hA:Below w1.heap.size w1 (w1.alloc (Obj.cells #[.slice none 0 0,.slice none 0 0] 26)):=(Below.refl _ _).alloc (Nat.le_refl _) _;refine a_g rfl (a_x (v:=.pointer (some ⟨w1.heap.size,0,none⟩)) (w':=w1.alloc (Obj.cells #[.slice none 0 0,.slice none 0 0] 26)) ?_ (hK _ _ ⟨w1.heap.size,rfl,hbs,[.slice none 0 0,.slice none 0 0],a_e _ _ rfl,rfl⟩ (C.base.alloc hbs _) (fun j _ h=>hG j _ _ _ hA h) (fun _ h=>absurd rfl h) (fun e=>absurd e (by decide)) (fun _ _ hy=>?_) (fun e=>absurd e (by decide))))
   ·simp [execOp,go_sem]
   ·obtain ⟨a,n,c,a',n',c',h1,h2,h3⟩:=hy;exact ⟨a,n,c,a',n',c',me,w1.heap.size,List.head_eq_of_cons_eq h1,rfl,a_r (fun _ _ _ _ h=>b_a _ h) (a_n (fun b h=>⟨h.1,by have:=h.2;omega⟩) (c_g h2)),a_r (fun _ _ _ _ h=>b_a _ h) (a_n (fun b h=>⟨h.1,by have:=h.2;omega⟩) (c_g h3))⟩
  refine InvD.c (fun a1 vals w1 C K hK=>?_) ?_
  ·have e0:=C.v 20 8 rfl rfl;have e1:=C.v 18 33 rfl rfl;obtain ⟨g,g1,g2,xs,hx,hx2⟩:=C.says 20 rfl;obtain ⟨a,n,c,a',n',c',h1⟩:=C.says 18 rfl;have y0:=N237;have y1:vals 18=.agg #[.slice a n c,.slice a' n' c']:=List.head_eq_of_cons_eq h1;have y2:=N77;obtain ⟨b,m,d,b',m',d',e',gg,q1,q2,q3,q4⟩:=C.two rfl rfl rfl rfl;rw [y2] at q1;rw [y0] at q2
   cases q1
   cases q2
   rw [y0] at e0;rw [y1] at e1;refine a_g rfl (a_0 26 _ _ rfl g #[.slice a n c,.slice a' n' c'] e0 e1 xs hx (by rw [hx2];rfl) (by kernel_rfl) (by simp [Value.oneCell']) ?_);intro U HU;have hUx:a_p U g [.slice a n c,.slice a' n' c']:=by rw [HU.out];exact a_q hx (by rw [hx2];rfl)
   have hk:=N113;have q5:=a_r (w':=U) hk q3;have q6:=a_r (w':=U) hk q4;refine hK _ U ⟨g,a,n,c,a',n',c',by show [vals 20,vals 16]=_;rw [y0,y2],g2,hUx,q5,q6⟩ (by rw [HU.out];exact a_h g2 C.base) (fun j hj h=>?_) (fun _ _ _=>⟨a,n,c,a',n',c',me,g,y2,y0,q5,q6⟩) (fun e=>absurd e (by decide)) (fun e=>absurd e (by decide)) (fun e=>absurd e (by decide))
   by_cases j16:j=16
   ·subst j16;exact ⟨a,n,c,a',n',c',by show [vals 16]=_;rw [y2],a_n (fun _ h=>h.1) q5,a_n (fun _ h=>h.1) q6⟩
   ·by_cases j20:j=20
    ·subst j20;exact ⟨g,by show [vals 20]=_;rw [y0],g2,_,hUx,rfl⟩
    ·exact n_5 _ _ _ _ _ _ _ _ _ _ _ _ _ _ _ _ _ j16 j20 hj h
  refine InvD.c (fun _ _ w1 C _ hK=>oR C hK (h:=by simp [execOp,go_sem,C.i 19])) ?_;exact StepsL.nil
 ·intro vals w1 hb hv hbo;obtain ⟨g,a,n,c,a',n',c',e1,g2,hm,q5,q6⟩:=hv 21 (by decide);have y20:=N238;have y22:vals 22=.int .i64 me:=List.head_eq_of_cons_eq (hv 22 (by decide));simp only [c_I,Act.put,sA,sB,sC,y20,y22];have HBV:=hid hb;have HX:=hid (a_i hb HX2.out);have HZ:=hid (a_i hb HZ2.out);have HT:=hid (a_i hb HT2.out);have HMV:=hid hm;have HB:=hid (a_b HB2.out hb);have HRR:=hid (show RWo Q1 w1 L X from a_D (fun _ h=>h.1) (b_G hb HRV.out));have HTT:=hid (a_w (a_C hb) HT3.out);have HQM:=hid (And.intro q5 q6);have HSZ:=hid (show w.heap.size+4≤w1.heap.size by have:=hb.size;have:=HS2.out;omega);have HGG:=hid (show w.heap.size+4≤g by have:=HS2.out;omega);clear hb hbo hv e1 y20 y22 hm q5 q6 g2 HX2 HI2 HZ2 HT2 HB2 HMK HT3 HRV x1 x2 y0 y1 y2 za zb hG i3 i4 i5 i6
  by_cases me0:me=0
  ·subst me0;have HMW:=hid (show c_2 X.ws X.ts va vb tag=X.ws by rw [c_2,if_pos HME.out]);have hp1:0≤t.pc:=HP.out.1;have hp2:t.pc≤1000:=HP.out.2;obtain ⟨V2,hV2⟩:=nm ((((w1.setCell ⟨w.heap.size,1,none⟩ (.slice a n c)).setCell ⟨w.heap.size,2,none⟩ (.slice a' n' c')).setCell ⟨(w.heap.size+3),0,none⟩ (.int .i64 (t.pc+1))));have HXs:=hid (show a_p V2 (w.heap.size) (woC (L.setMem ⟨a,n,c⟩ ⟨a',n',c'⟩) D) by have h:=(a_m (g':=(w.heap.size+3)) (o:=0) (a_A (a_A HX.out 1 (by simp) (.slice a n c)) 2 (by simp) (.slice a' n' c')) (by omega) (.int .i64 (t.pc+1)));rw [hV2];exact h);have HZs:=hid (show a_p V2 (w.heap.size+2) _ by rw [hV2];exact (a_m (g':=(w.heap.size+3)) (o:=0) (a_m (g':=w.heap.size) (o:=2) (a_m (g':=w.heap.size) (o:=1) HZ.out (by omega) (.slice a n c)) (by omega) (.slice a' n' c')) (by omega) (.int .i64 (t.pc+1))));have HTs:=hid (show a_p V2 ((w.heap.size+3)) (thC (b_h t) ta tn tc qa tm qc) by have h:=(a_A (a_m (g':=w.heap.size) (o:=2) (a_m (g':=w.heap.size) (o:=1) HT.out (by omega) (.slice a n c)) (by omega) (.slice a' n' c')) 0 (by simp) (.int .i64 (t.pc+1)));rw [hV2];exact h);have hkV2:Kept Q1 w1 V2:=by rw [hV2];exact (a_6 (a_6 (a_T _ _ _ (fun b hb=>by show b≠w.heap.size;have:=HQ2.out.2.1 b hb;omega)) (a_T _ _ _ (fun b hb=>by show b≠w.heap.size;have:=HQ2.out.2.1 b hb;omega))) (a_T _ _ _ (fun b hb=>by show b≠(w.heap.size+3);have:=HQ2.out.2.1 b hb;omega)))
   have HBs:=hid (show Below w.heap.size w V2 by rw [hV2];exact (((HB.out.setCell (p:=⟨w.heap.size,1,none⟩) (by show _≤w.heap.size;omega) _).setCell (p:=⟨w.heap.size,2,none⟩) (by show _≤w.heap.size;omega) _).setCell (p:=⟨(w.heap.size+3),0,none⟩) (by show _≤(w.heap.size+3);omega) _));have HZV2:=hid (show V2.heap.size=w1.heap.size by rw [hV2];simp);have HV2:=hid hV2;clear hV2;obtain ⟨x1,f1⟩:=HX.out 1 _ rfl;obtain ⟨x2,f2⟩:=HX.out 2 _ rfl;obtain ⟨z0,f0⟩:=HT.out 0 _ rfl
   go_upto_region 7 with (refine wpList_load_mid rfl 26 _ rfl g 0 rfl [.slice a n c,.slice a' n' c'] _ (a_f HMV.out) Tryz.underlying26 rfl (by kernel_rfl) ?_)
   rw [←HV2.out];clear x1 x2 z0 f0 f1 f2 hp1 hp2;obtain ⟨X2,hX2⟩:∃ X2:Wo,X2={ X with ws:=c_2 X.ws X.ts va vb tag,ts:=c_L X.ws X.ts va vb tag }:=⟨_,rfl⟩;have HX2:=hid (show X2.D=D∧X2={ X with ws:=c_2 X.ws X.ts va vb tag,ts:=c_L X.ws X.ts va vb tag } from ⟨by rw [hX2];exact HD.out,hX2⟩);clear hX2;have HYF:=hid (show b_j X2 j (b_h t)=Y by rw [HX2.out.2,←HY.out,if_pos rfl,HMW.out];rfl);have HR3:=hid (show RWo Q1 V2 (L.setMem ⟨a,n,c⟩ ⟨a',n',c'⟩) X2 by rw [HX2.out.2];exact h_5 (a_B hkV2 HRR.out) (a_r hkV2 (a_n (fun _ h=>h.1) HQM.out.1)) (a_r hkV2 (a_n (fun _ h=>h.1) HQM.out.2)))
   have h0:Calls Tryz.prog 53 #[woV (L.setMem ⟨a,n,c⟩ ⟨a',n',c'⟩) D,.int .i64 j,thV (b_h t) ta tn tc qa tm qc] V2 (b_B Q1 Y V2):=by
    have h:=c_R Q1 (L.setMem ⟨a,n,c⟩ ⟨a',n',c'⟩) X2 j (b_h t) ta tc qa qc V2 HR3.out (by rw [show (b_h t).fs.length=tn from HTN.out.1,show (b_h t).lf.length=tm from HTN.out.2];exact c_8 (a_w hkV2 HTT.out)) (fun b hb=>HQ2.out.2.2 b (by have:=HZV2.out;have:=HSZ.out;omega)) HN.out;rw [show (b_h t).fs.length=tn from HTN.out.1,show (b_h t).lf.length=tm from HTN.out.2,show X2.D=D from HX2.out.1,HYF.out] at h;exact h
   have HYD:=hid (show Y.D=D by rw [←HYF.out];exact HX2.out.1);have HC:=hid h0;clear h0
   go_wp2_with (first | (refine wpList_load_mid rfl 33 _ rfl (w.heap.size) 0 rfl (woC (L.setMem ⟨a,n,c⟩ ⟨a',n',c'⟩) D) _ (a_f HXs.out) Tryz.underlying33 rfl (by kernel_rfl) ?_) | (refine wpList_load_mid rfl 46 _ rfl (w.heap.size+3) 0 rfl (thC (b_h t) ta tn tc qa tm qc) _ (a_f HTs.out) Tryz.underlying46 rfl (by kernel_rfl) ?_))
   refine HC.out.mono ?_;rintro e9 w9 ⟨L9,rfl,R9,hb9⟩;have HZ9:=hid (a_i hb9 HZs.out);have HB9:=hid (a_b HBs.out hb9);have HR9:=hid R9;clear hb9 R9 HC;rw [HYD.out]
   go_wp2_with (refine a_c rfl 33 _ _ rfl (w.heap.size+2) (woC L9 D).toArray rfl rfl _ HZ9.out rfl (by kernel_rfl) (b_o _ _) ?_;intro U HU)
   have HZ10:=N103;refine a_V ⟨w.heap.size+2,0,none⟩ rfl rfl rfl (a_E HZ10.out 33 Tryz.underlying33 rfl (by kernel_rfl)) ?_;have hkU:=N7;exact a_Y (L:=L9) (by rw [HYD.out]) (a_D HQ2.out.1 (a_B hkU HR9.out)) (by rw [HU.out];exact a_h (by omega) HB9.out)
  ·have hme:(me != 0)=true:=by simpa using me0
   have HYF:=hid (show b_j X j (b_t t me)=Y by rw [←HY.out,if_neg me0])
   have h0:Calls Tryz.prog 52 #[woV L D,.int .i64 j,.int .i64 me] w1 (b_B Q1 Y w1):=by
    have h:=c_W Q1 L X j me w1 HRR.out hj (fun b hb=>HQ2.out.2.2 b (by have:=HSZ.out;omega)) HN.out;rw [HTW.out,HD.out,HYF.out] at h;exact h
   have HYD:=N134;have HC:=hid h0;clear h0
   go_wp2_with (first | (refine wpList_load_mid rfl 33 _ rfl (w.heap.size) 0 rfl (woC L D) _ (a_f HX.out) Tryz.underlying33 rfl (by kernel_rfl) ?_))
   refine HC.out.mono ?_;rintro e9 w9 ⟨L9,rfl,R9,hb9⟩;have HZ9:=hid (a_i hb9 HZ.out);have HB9:=hid (a_b HB.out hb9);exact J16
end Go.Proofs.YtogdpojnbgeknaaGreatDoor
