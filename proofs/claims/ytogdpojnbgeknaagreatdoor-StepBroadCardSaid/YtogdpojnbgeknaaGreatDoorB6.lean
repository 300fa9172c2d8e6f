import Derived.Test.YtogdpojnbgeknaaGreatDoorB5
import Derived.Deep.RegionLawGrows
import Derived.Deep.RegionWith
import Derived.WalkSpells
import Derived.Test.YtogdpojnbgeknaaGreatDoorB0
import Derived.Deep.RegionHeld3
import Derived.Deep.DeepCutAuto
set_option maxRecDepth 100000
set_option maxHeartbeats 16000000
namespace Go.Proofs.YtogdpojnbgeknaaGreatDoor
open Go.ChangeShapes Go.WideShapes Go.ChangeAt Go.RowKit
def j_j (zs:List Int) (w:World) (e:Ending) (w':World):Prop:=∃ a c,e=.returned (.slice a zs.length c)∧SlF w.heap.size w' a zs.length zs∧Below w.heap.size w w'
theorem j_y {zs:List Int} {w w':World} {v:Value} {n:Nat} (hn:zs.length=n) (h:w'.ownsRow w.heap.size 3 1 v n (zs.map (Value.int .i64))) (hb:Below w.heap.size w w'):j_j zs w (.returned v) w':=by
 subst hn;obtain ⟨a,c,rfl,hs⟩:=d_V h;exact ⟨a,c,rfl,hs,hb⟩
theorem p_u {w:World} {b off:Nat} {zs:List Int} (R:Row w b off zs):∀ j u,(zs.map (Value.int .i64))[j]?=some u→w.cell? ((⟨b,off,none⟩:Addr).add j)=some u:=by
 intro j u hu;rw [f_M];have hj:j < zs.length:=by simpa using (List.getElem?_eq_some_iff.1 hu).1
 rw [R j hj];simp [hj] at hu;simp [hj,hu]
theorem i_F (t e:TypeId) (a:Option Addr) (n c:Nat) (h:Tryz.prog.underlying t=some (.slice e)) (w:World):(binOp .eql t (.slice a n c) (.slice none 0 0)).run Tryz.prog w=.ok (.bool a.isNone) w:=by
 simp only [binOp];simp [Op.equal,Op.maxDepth,Lib.run_equalIn_slice_nil w 9999 t e a n c 0 0 h]
theorem h_4 (a:Option Addr) (n c:Nat) (zs:List Int) (w:World) (S:Sl w a n zs) (hn:n≤1000) (ha:n≠0∨(a=none∧c=0)) :
  Calls Tryz.prog 85 #[.slice a n c] w (j_j zs w):=by
 obtain ⟨i0,hi,hz0,hz1,hz2⟩:=N178;have HI:=N44;have Hn:=Lib.hid S.1;clear hi hz0 hz1 hz2
 by_cases h0:n=0
 ·obtain ⟨rfl,rfl⟩:=ha.resolve_left (by omega);subst h0;obtain rfl:zs=[]:=List.eq_nil_of_length_eq_zero Hn.out;have q:=fun w=>i_F 23 3 none 0 0 Tryz.underlying23 w
  go_enter Tryz.func85,Tryz.ntmps85
  go_wp2
  go_ret
  exact ⟨none,0,rfl,h_A _ _,Below.refl _ _⟩
 ·obtain ⟨b,o,rfl,R⟩:=S.2.resolve_left h0;have q:=fun w=>i_F 23 3 (some ⟨b,o,none⟩) n c Tryz.underlying23 w
  go_enter Tryz.func85,Tryz.ntmps85
  go_wp2_with (at_builtin;refine wpList_append_own _ rfl _ _ 23 rfl w.heap.size 3 i0 (.int .i64 0) 1 8 Tryz.underlying23 HI.out.1 HI.out.2.1 HI.out.2.2.1 HI.out.2.2.2 rfl (by decide) _ 0 [] rfl (World.ownsRow_made w #[] 0 (Nat.le_refl _) (by decide) (by simp)) ⟨b,o,none⟩ n c (zs.map (Value.int .i64)) rfl ?c1 ?c2 ?c3 ?c4 ?c5 ?c6 ?_)
  case c1=>simp [Hn.out]
  case c2=>exact p_u (m_f _ R)
  case c3=>intro v hv;simp at hv;obtain ⟨z,_,rfl⟩:=hv;rfl
  case c4=>unfold maxLen;omega
  case c5=>omega
  case c6=>simp
  intro v' w1 hown' hgrow _;have hb':=N86;have ⟨HO,HB⟩:=hh2 hown' hb';clear hown' hb' hgrow
  go_wp2
  go_ret
  exact j_y Hn.out HO.out HB.out
def h_W (ps:List (Int×Int)) (w:World) (e:Ending) (w':World):Prop:=∃ a c,e=.returned (.slice a ps.length c)∧d_A a ps.length c∧PlF w.heap.size w' a ps.length ps∧Below w.heap.size w w'
theorem i_D {ps:List (Int×Int)} {w w':World} {v:Value} {n:Nat} (hn:ps.length=n) (h:w'.ownsRow w.heap.size 59 2 v n (b_I ps)) (hb:Below w.heap.size w w'):h_W ps w (.returned v) w':=by
 subst hn;obtain ⟨a,c,rfl,hc,hs⟩:=f_E h;exact ⟨a,c,rfl,hc,hs,hb⟩
def f_K (ps:List (Int×Int)) (x:Int) (w:World) (e:Ending) (w':World):Prop:=∃ a c,e=.returned (.tuple #[.slice a ps.length c,.int .i64 x])∧d_A a ps.length c∧PlF w.heap.size w' a ps.length ps∧Below w.heap.size w w'
theorem d_5 {x:Int} {ps:List (Int×Int)} (he:ps=[]) {w w':World} (hb:Below w.heap.size w w'):f_K ps x w (.returned (.tuple #[.slice none 0 0,.int .i64 x])) w':=by
 subst he;exact ⟨none,0,rfl,e_e,p_n _ _,hb⟩
theorem h_o {ps qs:List (Int×Int)} {w w':World} {v:Value} {n:Nat} (hq:qs=ps) (hn:ps.length=n) {B:Nat} (hB:w.heap.size≤B) (h:w'.ownsRow B 59 2 v n (b_I ps)) (hb:Below w.heap.size w w'):f_K qs 0 w (.returned (.tuple #[v,.int .i64 0])) w':=by
 subst hq;subst hn;obtain ⟨a,c,rfl,hc,hs⟩:=f_E h;exact ⟨a,c,rfl,hc,r_f hB hs,hb⟩
theorem j_C {w W w1:World} (hg:W.grownBy w1 none) (hb:Below w.heap.size w W):Below w.heap.size w w1∧w.heap.size≤W.heap.size:=
 ⟨hb.grown hg hb.size (fun _ hr=>by cases hr),hb.size⟩
theorem e_2 {W:World} {g:Nat} {x y:Int} (k0:W.cell? ⟨g,0,none⟩=some (.int .i64 x)) (k1:W.cell? ⟨g,1,none⟩=some (.int .i64 y)):∀ j u,(b_I [(x,y)])[j]?=some u→W.cell? ((⟨g,0,none⟩:Addr).add j)=some u:=by
 intro j u hu;rw [f_M,Nat.zero_add];have hj:j < 2:=(List.getElem?_eq_some_iff.1 hu).1;have:j=0∨j=1:=by omega
 rcases this with rfl | rfl
 ·simp [b_I] at hu;subst hu;exact k0
 ·simp [b_I] at hu;subst hu;exact k1
theorem n_N (p:Addr) (n c:Nat) (ps:List (Int×Int)) (depth x y:Int) (w:World) (S:Pl w (some p) n ps) (hc:n≤c) (h3:c≤9223372036854775807) (d0:0≤depth) (d1:depth≤8) (d2:(n:Int)≤depth) (d3:(n:Int)≠depth) :
  Calls Tryz.prog 150 #[.slice (some p) n c,.int .i64 depth,.agg #[.int .i64 x,.int .i64 y]] w (f_K (e_1 ps depth (x,y)) 0 w):=by
 have Hn:=Lib.hid S.1;have HE:=Lib.hid (show e_j n depth=0 by rw [e_j,if_neg (by omega),if_neg d3]);have HL:=Lib.hid (show e_1 ps depth (x,y)=ps++[(x,y)] by rw [e_1,Hn.out,HE.out,if_pos rfl]);have q:((n:Int)==depth)=false:=by simpa using d3
 obtain ⟨i0,hi,hz0,hz1,hz2⟩:=N188;have HI:=N44;have hn8:n≤8:=by omega
 have holds:∀ W,Below w.heap.size w W→∀ b,some p=some b→∀ j u,(b_I ps)[j]?=some u→W.cell? (b.add j)=some u:=by
  intro W hW b hb j u hu
  cases hb
  have hj:=N141;obtain ⟨b,o,e,R⟩:=S.2.resolve_left (by rw [←Hn.out];omega)
  cases e
  rw [f_M];exact f_F (r_i hW R) j u hu
 have HH:=Lib.hid holds;clear d3 hi hz0 hz1 hz2 holds
 go_enter Tryz.func150,Tryz.ntmps150
 go_wp2
 go_region_law (refine step_append_grows rfl (.tmp 29) (.tmp 31) 55 rfl 59 i0 (.agg #[.int .i64 0,.int .i64 0]) 2 16 Tryz.underlying55 HI.out.1 HI.out.2.1 HI.out.2.2.1 HI.out.2.2.2 rfl (by decide) (some p) n n (b_I ps) (by simp [Act.eval]) (fun e=>by cases e) (by rw [b_3,Hn.out]) (HH.out _ (by go_grown)) ⟨w.heap.size+1,0,none⟩ 1 1 (b_I [(x,y)]) (by simp [Act.eval]) rfl (e_2 (by simp) (by simp)) (d_k _) (by omega) (by unfold maxLen;omega) (by omega) ?_;intro v' w1 hown hgrow)
 all_goals
  obtain ⟨hb',hsz⟩:=j_C hgrow (w:=w) (by go_grown);rw [←d_H] at hown;have ⟨HO,HB⟩:=hh2 hown hb';clear hown hb' hgrow
  go_wp2
  go_ret2
  exact h_o HL.out (by rw [List.length_append,Hn.out];rfl) hsz HO.out HB.out
theorem n_M (depth x y:Int) (w:World) (d1:depth≤8) (d3:0 < depth) :
  Calls Tryz.prog 150 #[.slice none 0 0,.int .i64 depth,.agg #[.int .i64 x,.int .i64 y]] w (f_K (e_1 [] depth (x,y)) 0 w):=by
 have HE:=Lib.hid (show e_j 0 depth=0 by rw [e_j,if_neg (by omega),if_neg (by omega)]);have HL:=Lib.hid (show e_1 [] depth (x,y)=[]++[(x,y)] by rw [e_1,List.length_nil,HE.out,if_pos rfl]);have q:((0:Int)==depth)=false:=by simp;omega
 have q1:decide (depth < 0)=false:=by simp;omega
 obtain ⟨i0,hi,hz0,hz1,hz2⟩:=N188;have HI:=N44;clear hi hz0 hz1 hz2
 go_enter Tryz.func150,Tryz.ntmps150
 go_wp2
 go_region_law (refine step_append_grows rfl (.tmp 29) (.tmp 31) 55 rfl 59 i0 (.agg #[.int .i64 0,.int .i64 0]) 2 16 Tryz.underlying55 HI.out.1 HI.out.2.1 HI.out.2.2.1 HI.out.2.2.2 rfl (by decide) none 0 0 (b_I []) (by simp [Act.eval]) (fun _=>⟨rfl,rfl⟩) rfl (fun b hb=>by cases hb) ⟨w.heap.size+1,0,none⟩ 1 1 (b_I [(x,y)]) (by simp [Act.eval]) rfl (e_2 (by simp) (by simp)) (d_k _) (by omega) (by unfold maxLen;omega) (by omega) ?_;intro v' w1 hown hgrow)
 all_goals
  obtain ⟨hb',hsz⟩:=j_C hgrow (w:=w) (by go_grown);rw [←d_H] at hown;have ⟨HO,HB⟩:=hh2 hown hb';clear hown hb' hgrow
  go_wp2
  go_ret2
  exact h_o HL.out rfl hsz HO.out HB.out
theorem q_b (a:Option Addr) (n c:Nat) (ps:List (Int×Int)) (depth x y:Int) (w:World) (S:Pl w a n ps) (hcap:d_A a n c) :
  Calls Tryz.prog 150 #[.slice a n c,.int .i64 depth,.agg #[.int .i64 x,.int .i64 y]] w (f_K (e_1 ps depth (x,y)) (e_j n depth) w):=by
 obtain ⟨hc,h3,h0⟩:=hcap;have Hn:=Lib.hid S.1;have H0:=Lib.hid h0;clear h0
 by_cases d0:depth < 0
 ·have HE:=Lib.hid (show e_j n depth=1 by rw [e_j,if_pos (.inl d0)]);exact J53
 ·by_cases d1:8 < depth
  ·have HE:=Lib.hid (show e_j n depth=1 by rw [e_j,if_pos (.inr (.inl d1))]);exact J53
  ·by_cases d2:depth < n
   ·have HE:=Lib.hid (show e_j n depth=1 by rw [e_j,if_pos (.inr (.inr d2))]);exact J53
   ·by_cases d3:(n:Int)=depth
    ·have HE:=Lib.hid (show e_j n depth=7 by rw [e_j,if_neg (by omega),if_pos d3]);have HL:=Lib.hid (show e_1 ps depth (x,y)=[] by rw [e_1,Hn.out,HE.out,if_neg (by decide)]);rw [HE.out];have q:((n:Int)==depth)=true:=by simpa using d3
     clear d3
     go_enter Tryz.func150,Tryz.ntmps150
     go_wp2
     go_ret2
     exact d_5 HL.out (by go_grown)
    ·have HE:=Lib.hid (show e_j n depth=0 by rw [e_j,if_neg (by omega),if_neg d3]);rw [HE.out]
     cases a with
     | some p=>exact n_N p n c ps depth x y w S hc h3 (by omega) (by omega) (by omega) d3
     | none =>
      obtain rfl:c=0:=H0.out rfl;obtain rfl:n=0:=by omega
      obtain rfl:ps=[]:=List.eq_nil_of_length_eq_zero S.1;exact n_M depth x y w (by omega) (by omega)
theorem j_Q (ps:List (Int×Int)) (k:Nat) (x:Int) (h:k < ps.length) (p:Int×Int) (hp:ps.getD k (0,0)=p) :
  (p.1=x→c_x (ps.take (k+1)) x=p.2∧c_w (ps.take (k+1)) x=true)∧(p.1≠x→c_x (ps.take (k+1)) x=c_x (ps.take k) x∧c_w (ps.take (k+1)) x=c_w (ps.take k) x):=by
 subst hp;simp only [c_x,c_w,e_t ps k x h]
 constructor
 ·intro e;rw [if_pos e];exact ⟨rfl,rfl⟩
 ·intro e;rw [if_neg e];exact ⟨rfl,rfl⟩
def n_J (v:Int) (i:Bool) (w:World) (e:Ending) (w':World):Prop:=e=.returned (.tuple #[.int .i64 v,.bool i])∧Below w.heap.size w w'
theorem m_1 {v z:Int} {i t:Bool} {w w':World} (h1:v=z) (h2:i=t) (hb:Below w.heap.size w w'):n_J v i w (.returned (.tuple #[.int .i64 z,.bool t])) w':=by subst h1;subst h2;exact ⟨rfl,hb⟩
theorem i_X (a:Option Addr) (n c:Nat) (ps:List (Int×Int)) (x:Int) (w:World) (S:Pl w a n ps) (hn:n≤9223372036854775807) :
  Calls Tryz.prog 127 #[.slice a n c,.int .i64 x] w (n_J (c_x ps x) (c_w ps x) w):=by
 have Hn:=Lib.hid S.1
 go_enter Tryz.func127,Tryz.ntmps127
 go_wp2
 go_loopw [6,7,12] (fun v i s wr=>∃ (k:Nat) (z:Int) (t:Bool),k≤n∧s=.int .i64 k∧v=.int .i64 z∧i=.bool t∧Hid (c_x (ps.take k) x=z∧c_w (ps.take k) x=t)∧Below w.heap.size w wr) (fun _ _ s _=>n - (intOf s).toNat)
 case atStart=>exact ⟨0,0,false,by omega,rfl,rfl,rfl,⟨rfl,rfl⟩,Below.refl _ _⟩
 case round =>
  obtain ⟨k,z,t,hk,rfl,rfl,rfl,hz,hb⟩:=hrel
  by_cases hlt:k < n
  ·obtain ⟨b,o,rfl,R⟩:=N179;have g:=R k (by rw [Hn.out];exact hlt);have g1:=a_t hb g.1;have g2:=a_t hb g.2;have hsz:=hb.size;obtain ⟨p,hp⟩:=mn (ps.getD k (0,0));rw [hp] at g1 g2;have HN:=Lib.hid (j_Q ps k x (by rw [Hn.out];exact hlt) p hp);have HB:=Lib.hid hb;clear g hp hb
   by_cases e:p.1=x
   ·have HZ:=Lib.hid (HN.out.1 e);have q:(p.1==x)=true:=by simpa using e
    clear e
    go_wp2
    go_roundw
    case rel=>exact ⟨k+1,p.2,true,by omega,by go_num,rfl,rfl,HZ.out,HB.out.alloc hsz _⟩
    case measure=>simp [intOf];omega
   ·have HZ:=Lib.hid (HN.out.2 e);have q:(p.1==x)=false:=by simpa using e
    clear e
    go_wp2
    go_roundw
    case rel=>exact ⟨k+1,z,t,by omega,by go_num,rfl,rfl,⟨HZ.out.1.trans hz.out.1,HZ.out.2.trans hz.out.2⟩,HB.out.alloc hsz _⟩
    case measure=>simp [intOf];omega
  ·obtain rfl:k=n:=by omega
   have E:Hid (ps.take k=ps):=List.take_of_length_le (by rw [Hn.out];omega);have h1:=hz.out.1;have h2:=hz.out.2;rw [E.out] at h1 h2;have ⟨H1,H2,HB⟩:=hh3 h1 h2 hb;clear hb h1 h2
   go_wp2
   go_ret2
   exact m_1 H1.out H2.out HB.out
def i_w (ps:List (Int×Int)) (w:World) (e:Ending) (w':World):Prop:=∃ a c,e=.returned (.slice a ps.length c)∧d_A a ps.length c∧PlF w.heap.size w' a ps.length ps∧Below w.heap.size w w'
theorem f_G {ps qs:List (Int×Int)} {w w':World} {v:Value} {n:Nat} (hq:qs=ps) (hn:ps.length=n) (h:w'.ownsRow w.heap.size 59 2 v n (b_I ps)) (hb:Below w.heap.size w w'):i_w qs w (.returned v) w':=by
 subst hq;subst hn;obtain ⟨a,c,rfl,hc,hs⟩:=f_E h;exact ⟨a,c,rfl,hc,hs,hb⟩
theorem r_h {w:World} {p:Addr} {n:Nat} {ps:List (Int×Int)} (S:Pl w (some p) n ps):∀ W,Below w.heap.size w W→∀ j u,(b_I ps)[j]?=some u→W.cell? (p.add j)=some u:=by
 intro W hW j u hu;have hj:=N141;obtain ⟨b,o,e,R⟩:=S.2.resolve_left (by have:=S.1;omega)
 cases e
 rw [f_M];exact f_F (r_i hW R) j u hu
theorem l_i (a:Option Addr) (n c:Nat) (ps:List (Int×Int)) (x y:Int) (w:World) (S:Pl w a n ps) (hn:n≤1000) (h0:a=none→c=0) :
  Calls Tryz.prog 128 #[.slice a n c,.agg #[.int .i64 x,.int .i64 y]] w (i_w (ps++[(x,y)]) w):=by
 obtain ⟨i0,hi,hz0,hz1,hz2⟩:=N188;have HI:=N44;have Hn:=Lib.hid S.1
 have hown0:((w.alloc (Obj.cells #[.int .i64 x,.int .i64 y] 59)).alloc (.cells #[] 59)).ownsRow w.heap.size 59 2 (.slice (some ⟨w.heap.size+1,0,none⟩) 0 0) 0 []:=by
  have:=World.ownsRow_made (base:=w.heap.size) (e:=59) (size:=2) (w.alloc (Obj.cells #[.int .i64 x,.int .i64 y] 59)) #[] 0 (by simp) (by decide) (by simp);rw [World.size_alloc] at this;exact this
 have HOWN:=Lib.hid hown0;clear hi hz0 hz1 hz2 hown0
 cases a with
 | none =>
  obtain rfl:c=0:=h0 rfl
  obtain rfl:n=0:=by
   rcases S.2 with h | ⟨b,o,h,_⟩
   ·exact h
   ·cases h
  obtain rfl:ps=[]:=List.eq_nil_of_length_eq_zero S.1;clear S h0 hn
  go_enter Tryz.func128,Tryz.ntmps128
  go_wp2_with (at_builtin;refine wpList_append_own _ rfl (.tmp 10) (.tmp 12) 55 rfl w.heap.size 59 i0 (.agg #[.int .i64 0,.int .i64 0]) 2 16 Tryz.underlying55 HI.out.1 HI.out.2.1 HI.out.2.2.1 HI.out.2.2.2 rfl (by decide) _ 0 [] rfl (HOWN.out.alloc _) ⟨w.heap.size+1+1,0,none⟩ 1 1 (b_I [(x,y)]) rfl rfl ?c1 ?c2 ?c3 ?c4 ?c5 ?_)
  case c1=>exact e_2 (a_Y _ _ _ (by simp) rfl) (a_Y _ _ _ (by simp) rfl)
  case c2=>exact d_k _
  case c3=>unfold maxLen;omega
  case c4=>omega
  case c5=>simp;omega
  intro v' w1 hown' hgrow _;have hb':=(((Below.refl w.heap.size w).alloc (Nat.le_refl _) (Obj.cells #[.int .i64 x,.int .i64 y] 59)).alloc (by simp) (.cells #[] 59)).alloc (by simp;omega) (Obj.cells #[.int .i64 x,.int .i64 y] 59) |>.grown hgrow (by simp;omega) (fun r hr=>by cases hr;simp)
  have ⟨HO',HB'⟩:=hh2 hown' hb';clear hown' hb' hgrow
  go_wp2
  go_ret
  exact f_G rfl rfl HO'.out HB'.out
 | some p =>
  have HH:=Lib.hid (r_h S)
  go_enter Tryz.func128,Tryz.ntmps128
  go_wp2_with (at_builtin;refine wpList_append_own _ rfl (.tmp 7) (.tmp 8) 55 rfl w.heap.size 59 i0 (.agg #[.int .i64 0,.int .i64 0]) 2 16 Tryz.underlying55 HI.out.1 HI.out.2.1 HI.out.2.2.1 HI.out.2.2.2 rfl (by decide) _ 0 [] rfl HOWN.out p n c (b_I ps) rfl ?c1 ?c2 ?c3 ?c4 ?c5 ?c6 ?_)
  case c1=>rw [b_3,Hn.out]
  case c2=>exact HH.out _ (by go_grown)
  case c3=>exact d_k _
  case c4=>unfold maxLen;omega
  case c5=>omega
  case c6=>simp;omega
  intro v' w1 hown' hgrow _;have hb':=((Below.refl w.heap.size w).alloc (Nat.le_refl _) (Obj.cells #[.int .i64 x,.int .i64 y] 59)).alloc (by simp) (.cells #[] 59) |>.grown hgrow (by simp;omega) (fun r hr=>by cases hr;simp)
  have d0:w1.cell? ⟨w.heap.size,0,none⟩=some (.int .i64 x):=hgrow.cell (a_8 _ (by simp)) (by simp [Value.ownBlock]);have d1:w1.cell? ⟨w.heap.size,1,none⟩=some (.int .i64 y):=hgrow.cell (a_8 _ (by simp)) (by simp [Value.ownBlock]);have ⟨HO',HB'⟩:=hh2 hown' hb';have hsz:=hb'.size;clear hown' hb' hgrow
  go_wp2_with (at_builtin;refine wpList_append_own _ rfl (.tmp 10) (.tmp 12) 55 rfl w.heap.size 59 i0 (.agg #[.int .i64 0,.int .i64 0]) 2 16 Tryz.underlying55 HI.out.1 HI.out.2.1 HI.out.2.2.1 HI.out.2.2.2 rfl (by decide) _ _ _ rfl (HO'.out.alloc _) ⟨w1.heap.size,0,none⟩ 1 1 (b_I [(x,y)]) rfl rfl ?c1 ?c2 ?c3 ?c4 ?c5 ?_)
  case c1=>exact e_2 (by simp) (by simp)
  case c2=>exact d_k _
  case c3=>unfold maxLen;omega
  case c4=>omega
  case c5=>simp;omega
  intro v'' w2 hown'' hgrow' _;have hb'':=(HB'.out.alloc hsz (Obj.cells #[.int .i64 x,.int .i64 y] 59)).grown hgrow' (by simp;omega) (fun r hr=>((HO'.out.alloc (Obj.cells #[.int .i64 x,.int .i64 y] 59)).lt r hr).1);rw [←d_H] at hown'';have ⟨HO'',HB''⟩:=hh2 hown'' hb'';have HL:=Lib.hid (show (ps++[(x,y)]).length=n+1 by rw [List.length_append,Hn.out];rfl);clear hown'' hb'' hgrow'
  go_wp2
  go_ret
  exact f_G rfl HL.out HO''.out HB''.out
def h_r (ps:List (Int×Int)) (k:Nat):List (Int×Int):=(ps.take k).drop 1
theorem h_s (ps:List (Int×Int)) (k:Nat) (h:k≤1):h_r ps k=[]:=by
 rw [h_r];apply List.drop_eq_nil_of_le;rw [List.length_take];omega
theorem n_f (ps:List (Int×Int)) (k:Nat) (hk:1≤k) (h:k < ps.length) {p:Int×Int} (hp:ps.getD k (0,0)=p):h_r ps (k+1)=h_r ps k++[p]:=by
 subst hp;rw [h_r,h_r,i_o ps k h,List.drop_append_of_le_length (by rw [List.length_take];omega)]
theorem p_r (ps:List (Int×Int)):h_r ps ps.length=e_K ps:=by rw [h_r,List.take_length,e_K]
theorem p_s (ps:List (Int×Int)) (k:Nat) (h:k≤ps.length):(h_r ps k).length=k - 1:=by rw [h_r,List.length_drop,List.length_take];omega
theorem l_j (a:Option Addr) (n c:Nat) (ps:List (Int×Int)) (w:World) (S:Pl w a n ps) (hn:n≤1000) :
  Calls Tryz.prog 106 #[.slice a n c] w (i_w (e_K ps) w):=by
 obtain ⟨i0,hi,hz0,hz1,hz2⟩:=N188;have HI:=N44;have Hn:=Lib.hid S.1;clear hi hz0 hz1 hz2
 go_enter Tryz.func106,Tryz.ntmps106
 go_wp2
 go_loopw [3,9] (fun v s wr=>∃ k:Nat,k≤n∧s=.int .i64 k∧wr.ownsRow w.heap.size 59 2 v (k - 1) (b_I (h_r ps k))∧Below w.heap.size w wr) (fun _ s _=>n - (intOf s).toNat)
 case atStart=>exact ⟨0,by omega,rfl,by rw [h_s ps 0 (by omega)];exact World.ownsRow_made w #[] 0 (Nat.le_refl _) (by decide) (by simp),(Below.refl _ _).alloc (Nat.le_refl _) _⟩
 case round =>
  obtain ⟨k,hk,rfl,hown,hb⟩:=hrel
  by_cases hlt:k < n
  ·obtain ⟨b,o,rfl,R⟩:=N179;have g:=R k (by rw [Hn.out];exact hlt);have g1:=a_t hb g.1;have g2:=a_t hb g.2;have hsz:=hb.size;obtain ⟨p,hp⟩:=mn (ps.getD k (0,0));rw [hp] at g1 g2;have ⟨Hp,HB,HO⟩:=hh3 hp hb hown;clear g hp hb hown
   by_cases e:0 < k
   ·have HS:=Lib.hid (n_f ps k e (by rw [Hn.out];exact hlt) Hp.out);have q:decide ((0:Int) < k)=true:=by simp;omega
    have HK:=Lib.hid (show k - 1+1=k by omega)
    go_wp2_with (at_builtin;refine wpList_append_own _ rfl _ _ 55 rfl w.heap.size 59 i0 (.agg #[.int .i64 0,.int .i64 0]) 2 16 Tryz.underlying55 HI.out.1 HI.out.2.1 HI.out.2.2.1 HI.out.2.2.2 rfl (by decide) _ _ _ rfl ((HO.out.alloc _).alloc _) ⟨wr.heap.size+1,0,none⟩ 1 1 (b_I [p]) rfl rfl ?c1 ?c2 ?c3 ?c4 ?c5 ?_)
    case c1=>obtain ⟨p1,p2⟩:=p;exact e_2 (by simp) (by simp)
    case c2=>exact d_k _
    case c3=>unfold maxLen;omega
    case c4=>omega
    case c5=>simp;omega
    intro v' w1 hown' hgrow _;have hb':=((HB.out.alloc hsz (.cells #[.int .i64 p.1,.int .i64 p.2] 59)).alloc (by simp;omega) (.cells #[.int .i64 p.1,.int .i64 p.2] 59)).grown hgrow (by simp;omega) (fun r hr=>((HO.out.alloc (.cells #[.int .i64 p.1,.int .i64 p.2] 59)).lt r hr).1);rw [←d_H,←HS.out,HK.out] at hown';have ⟨HO',HB'⟩:=hh2 hown' hb';clear hown' hb' hgrow
    go_wp2
    go_roundw
    case rel=>exact ⟨k+1,by omega,by go_num,HO'.out,HB'.out⟩
    case measure=>simp [intOf];omega
   ·obtain rfl:k=0:=by omega
    have HS:=Lib.hid (h_s ps 0 (by omega));have HS':=Lib.hid (h_s ps 1 (by omega));rw [Nat.zero_mul,Nat.add_zero] at g1 g2
    go_wp2
    go_roundw
    case rel=>exact ⟨1,by omega,rfl,by rw [HS'.out,←HS.out];exact HO.out.alloc _,HB.out.alloc hsz _⟩
    case measure=>simp [intOf];omega
  ·obtain rfl:k=n:=by omega
   have ⟨HB,HO⟩:=hh2 hb hown;have HL:=Lib.hid (p_s ps k (by rw [Hn.out];omega));have HA:=Lib.hid (p_r ps);clear hb hown
   go_wp2
   go_ret
   exact f_G (by rw [←HA.out,Hn.out]) HL.out HO.out HB.out
theorem f_4 (a a' q:Option Addr) (n c n' c' l d:Nat) (D x y:Int) (w:World) :
  Calls Tryz.prog 110 #[.agg #[.slice a n c,.slice a' n' c',.int .i64 D,.slice q l d],.agg #[.int .i64 x,.int .i64 y]] w (b_h (!(inP n (x,y))) w):=by
 have H:=Lib.hid (show inP n (x,y)=decide (0≤x∧x < n) from rfl)
 by_cases h1:0≤x
 ·have q1:decide (x < 0)=false:=by simp;omega
  go_enter Tryz.func110,Tryz.ntmps110
  go_wp2
  go_ret
  exact a_k (by rw [H.out,Bool.eq_iff_iff];simp;omega) (by go_grown)
 ·have q1:decide (x < 0)=true:=by simp;omega
  go_enter Tryz.func110,Tryz.ntmps110
  go_wp2
  go_ret
  exact a_k (by rw [H.out];simp [h1]) (by go_grown)
def n_F (t:Bool) (w:World) (e:Ending) (w':World):Prop:=∃ i:Int,e=.returned (.int .i64 i)∧decide (0≤i)=t∧Below w.heap.size w w'
theorem i_b {t:Bool} {w w':World} {i:Int} (h:decide (0≤i)=t) (hb:Below w.heap.size w w'):n_F t w (.returned (.int .i64 i)) w':=⟨i,rfl,h,hb⟩
theorem s_v {N:Nat} {b:List (Int×Int)} {k:Nat} (hk:k < b.length) (h:inP N (b.getD k (0,0))=false):b.all (inP N)=false:=by
 have e:b.getD k (0,0)=b[k]:=by simp [hk]
 rw [e] at h;exact List.all_eq_false.2 ⟨b[k],List.getElem_mem hk,by rw [h];decide⟩
theorem q_j {N:Nat} {b:List (Int×Int)} (h:h_Y N b b.length):b.all (inP N)=true:=by
 simp only [List.all_eq_true];intro p hp;obtain ⟨i,hi,rfl⟩:=List.mem_iff_getElem.1 hp;have:=h i hi
 simpa [hi] using this
theorem k_V (p:Option Addr) (m mc:Nat) (ps:List (Int×Int)) (a a' q:Option Addr) (n c n' c' l d:Nat) (D:Int) (w:World) (S:Pl w p m ps) (hm:m≤9223372036854775807) :
  Calls Tryz.prog 129 #[.slice p m mc,.func (.func 110) #[.agg #[.slice a n c,.slice a' n' c',.int .i64 D,.slice q l d]] #[]] w (n_F (!(ps.all (inP n))) w):=by
 have Hn:=Lib.hid S.1
 go_enter Tryz.func129,Tryz.ntmps129
 go_wp2
 go_loopw [8] (fun s wr=>∃ k:Nat,k≤m∧s=.int .i64 k∧Hid (h_Y n ps k)∧Below w.heap.size w wr) (fun s _=>m - (intOf s).toNat)
 case atStart=>exact ⟨0,by omega,rfl,by intro j hj;omega,Below.refl _ _⟩
 case round =>
  obtain ⟨k,hk,rfl,hs,hb⟩:=hrel
  by_cases hlt:k < m
  ·obtain ⟨b,o,rfl,R⟩:=N179;have g:=R k (by rw [Hn.out];exact hlt);have g1:=a_t hb g.1;have g2:=a_t hb g.2;obtain ⟨x,hx⟩:=mn (ps.getD k (0,0));rw [hx] at g1 g2;obtain ⟨x1,x2⟩:=x;have ⟨HX,HB⟩:=hh2 hx hb;dsimp only at g1 g2;have i1:(0:Int)≤k:=by omega
   have i2:(k:Int) < m:=by omega
   clear g hx hb
   cases hin:inP n (x1,x2) with
   | true =>
    have HS:=Lib.hid (h_p hs.out (by rw [HX.out];exact hin));have HI:=Lib.hid hin;clear hin
    go_wp2_with (go_at_call 110;refine (f_4 a a' q n c n' c' l d D x1 x2 _).mono ?_;rw [HI.out];rintro e w1 ⟨rfl,hb1⟩;have HB1:=Lib.hid (a_a HB.out hb1);clear hb1)
    go_roundw
    case rel=>exact ⟨k+1,by omega,by go_num,HS.out,HB1.out⟩
    case measure=>simp [intOf];omega
   | false =>
    have HS:=Lib.hid (s_v (N:=n) (b:=ps) (k:=k) (by rw [Hn.out];exact hlt) (by rw [HX.out];exact hin));have HI:=Lib.hid hin;clear hin
    go_wp2_with (go_at_call 110;refine (f_4 a a' q n c n' c' l d D x1 x2 _).mono ?_;rw [HI.out];rintro e w1 ⟨rfl,hb1⟩;have HB1:=Lib.hid (a_a HB.out hb1);clear hb1)
    go_ret
    exact i_b (by rw [HS.out];simp) HB1.out
  ·obtain rfl:k=m:=by omega
   have HS:=Lib.hid (q_j (N:=n) (b:=ps) (by rw [Hn.out];exact hs.out));have HB:=Lib.hid hb;clear hb
   go_wp2
   go_ret
   exact i_b (by rw [HS.out];rfl) HB.out
theorem e_F (p:Option Addr) (m mc:Nat) (ps:List (Int×Int)) (a a' q:Option Addr) (n c n' c' l d:Nat) (D:Int) (w:World) (S:Pl w p m ps) (hm:m≤9223372036854775807) :
  Calls Tryz.prog 109 #[.slice p m mc,.func (.func 110) #[.agg #[.slice a n c,.slice a' n' c',.int .i64 D,.slice q l d]] #[]] w (b_h (!(ps.all (inP n))) w):=by
 go_enter Tryz.func109,Tryz.ntmps109
 go_wp2_with fail
 refine (k_V p m mc ps a a' q n c n' c' l d D _ S hm).mono ?_;rintro e w1 ⟨i,rfl,ht,hb⟩;have ⟨HT,HB⟩:=hh2 ht hb;clear ht hb
 go_wp2
 go_ret
 exact a_k HT.out.symm HB.out
theorem e_6 (a a' q:Option Addr) (n c n' c' l d:Nat) (ws ts:List Int) (D:Int) (bs:List (List (Int×Int))) (w:World) (S1:Sl w a n ws) (S2:Sl w a' n' ts) (S:Bl w q l bs) :
  Calls Tryz.prog 73 #[.agg #[.slice a n c,.slice a' n' c',.int .i64 D,.slice q l d]] w (b_h (d_o ws ts D bs) w):=by
 have Hn:=Lib.hid S1.1;have Hl:=Lib.hid S.1;have hmf:=N72
 cases hm:d_g ws ts with
 | false =>
  have HM:=Lib.hid hm;have HT:=Lib.hid (show d_o ws ts D bs=false by simp [d_o,hm]);clear hm
  go_enter Tryz.func73,Tryz.ntmps73
  go_wp2_with fail
  refine (c_m a a' n c n' c' ws ts _ (slA _ S1) (slA _ S2)).mono ?_;exact J98
 | true =>
  have HM:=Lib.hid hm;clear hm
  by_cases hs:c_f l D=true
  ·have hs':c_f bs.length D=true:=by rw [Hl.out];exact hs
   have HS:=Lib.hid hs';simp only [c_f,decide_eq_true_eq] at hs;obtain ⟨s1,s2,s3,s4⟩:=hs;have s1':1≤l:=by omega
   have s2':l≤8:=by omega
   clear hs'
   go_enter Tryz.func73,Tryz.ntmps73
   go_wp2_with fail
   refine (c_m a a' n c n' c' ws ts _ (slA _ S1) (slA _ S2)).mono ?_;rintro e w1 ⟨rfl,hb⟩;rw [HM.out];have hb1:=N6;have c0:=N221;have c1:=N214;have c2:=N108;have c3:=N59;have HB1:=Lib.hid hb1;have S':=blB hb1 S;clear hb hb1
   go_wp2
   go_loopw [38] (fun s wr=>∃ k:Nat,k≤l∧s=.int .i64 k∧Hid (j_i ws.length D bs k)∧Below w1.heap.size w1 wr) (fun s _=>l - (intOf s).toNat)
   case atStart=>exact ⟨0,by omega,rfl,by intro j hj;omega,Below.refl _ _⟩
   case round =>
    obtain ⟨k,hk,rfl,hr,hb⟩:=hrel;have c0':=a_t hb c0;have c1':=a_t hb c1;have c2':=a_t hb c2;have c3':=a_t hb c3;have HB:=Lib.hid hb
    by_cases hlt:k < l
    ·obtain ⟨b,o,p,pc,rfl,k0,hcap,hp⟩:=g_5 (blB hb S') hlt;obtain ⟨x,hx⟩:=mn (bs.getD k []);rw [hx] at k0 hp hcap;have HX:=Lib.hid hx;obtain ⟨m,hm⟩:=mn (x.length);rw [hm] at k0 hp hcap;have HM:=Lib.hid hm;have hcap1:=hcap.1;have hcap2:=hcap.2.1;have i1:(0:Int)≤k:=by omega
     have i2:(k:Int) < l:=by omega
     clear hx hm hb hcap
     by_cases hD:D < m
     ·have HF:=Lib.hid (g_Q (ws:=ws) (ts:=ts) (D:=D) (bs:=bs) (k:=k) (by rw [Hl.out];exact hlt) (by rw [HX.out];simp [g_c,HM.out];omega));exact J82
     ·have hD':(m:Int)≤D:=by omega
      cases hin:x.all (inP n) with
      | false =>
       have HF:=Lib.hid (g_Q (ws:=ws) (ts:=ts) (D:=D) (bs:=bs) (k:=k) (by rw [Hl.out];exact hlt) (by rw [HX.out,Hn.out];simp only [g_c];rw [hin];simp));have HI:=Lib.hid hin;clear hin
       go_wp2_with (go_at_call 109;refine (e_F p m pc x a a' (some ⟨b,o,none⟩) n c n' c' l d D _ hp (by omega)).mono ?_;rw [HI.out];rintro e w2 ⟨rfl,hb2⟩;have HB2:=Lib.hid (a_a HB.out hb2);clear hb2)
       go_ret
       exact a_k HF.out (HB1.out.trans (HB2.out.mono HB1.out.size))
      | true =>
       have HF:=Lib.hid (g_6 hr.out (by rw [HX.out,Hn.out];simp only [g_c,HM.out];rw [hin];simpa using hD'));have HI:=Lib.hid hin;clear hin
       go_wp2_with (go_at_call 109;refine (e_F p m pc x a a' (some ⟨b,o,none⟩) n c n' c' l d D _ hp (by omega)).mono ?_;rw [HI.out];rintro e w2 ⟨rfl,hb2⟩;have HB2:=Lib.hid (a_a HB.out hb2);clear hb2)
       go_roundw
       case rel=>exact ⟨k+1,by omega,by go_num,HF.out,HB2.out⟩
       case measure=>simp [intOf];omega
    ·obtain rfl:k=l:=by omega
     have HF:=Lib.hid (j_O HM.out HS.out (by rw [Hl.out];exact hr.out));clear hb;exact J82
  ·have HT:=Lib.hid (show d_o ws ts D bs=false by
    have:c_f bs.length D=false:=by rw [Hl.out];simpa using hs
    simp [d_o,this])
   have hs':¬ ((1:Int)≤l∧(l:Int)≤8∧0≤D∧D≤8):=by simpa [c_f] using hs
   clear hs
   go_enter Tryz.func73,Tryz.ntmps73
   go_wp2_with fail
   refine (c_m a a' n c n' c' ws ts _ (slA _ S1) (slA _ S2)).mono ?_;rintro e w1 ⟨rfl,hb⟩;rw [HM.out];have hb1:=N6;have c2:=N108;have c3:=N59;have HB1:=Lib.hid hb1;clear hb hb1
   by_cases d0:D < 0
   ·go_wp2
    go_ret
    exact a_k HT.out HB1.out
   ·by_cases d1:8 < D
    ·go_wp2
     go_ret
     exact a_k HT.out HB1.out
    ·by_cases d2:(l:Int) < 1
     ·go_wp2
      go_ret
      exact a_k HT.out HB1.out
     ·have d3:8 < (l:Int):=by omega
      go_wp2
      go_ret
      exact a_k HT.out HB1.out
theorem e_l (a a' q:Option Addr) (n c n' c' l d:Nat) (ws ts:List Int) (D th:Int) (bs:List (List (Int×Int))) (w:World) (S1:Sl w a n ws) (S2:Sl w a' n' ts) (S:Bl w q l bs) :
  Calls Tryz.prog 147 #[.agg #[.slice a n c,.slice a' n' c',.int .i64 D,.slice q l d],.int .i64 th] w (b_h (d_o ws ts D bs&&thB bs th) w):=by
 have Hl:=Lib.hid S.1;have HT:=Lib.hid (show thB bs th=decide (0≤th∧th < l) by rw [thB,Hl.out])
 cases hm:d_o ws ts D bs with
 | false =>
  have HM:=Lib.hid hm;clear hm
  go_enter Tryz.func147,Tryz.ntmps147
  go_wp2_with fail
  refine (e_6 a a' q n c n' c' l d ws ts D bs _ (slA _ S1) (slA _ S2) (blA _ S)).mono ?_;rintro e w1 ⟨rfl,hb⟩;rw [HM.out];have HB:=N122;clear hb
  go_wp2
  go_ret
  exact a_k (by simp) HB.out
 | true =>
  have HM:=Lib.hid hm;clear hm
  by_cases h0:0≤th
  all_goals
   have q0:decide (0≤th)=decide (0≤th):=rfl
   go_enter Tryz.func147,Tryz.ntmps147
   go_wp2_with fail
   refine (e_6 a a' q n c n' c' l d ws ts D bs _ (slA _ S1) (slA _ S2) (blA _ S)).mono ?_;rintro e w1 ⟨rfl,hb⟩;rw [HM.out];have c3:=N59;have HB:=N122;clear hb q0
   go_wp2
   go_ret
   exact a_k (by rw [HT.out,Bool.eq_iff_iff];simp;try omega) HB.out
theorem r_x {Q:Nat→Prop} {F:Nat} {w:World} {a:Option Addr} {n:Nat} {zs:List Int} (hQ:∀ b,Q b→F≤b) (h:SlP Q w a n zs):SlF F w a n zs:=⟨h.1,h.2.imp id fun ⟨b,o,e,hq,r⟩=>⟨b,o,e,hQ b hq,r⟩⟩
theorem s_d {w:World} {g:Nat} (x y:Value) (h:(w.cell? ⟨g,0,none⟩).isSome=true):((w.setCell ⟨g,0,none⟩ x).setCell ⟨g,1,none⟩ y).cell? ⟨g,0,none⟩=some x:=by
 rw [World.cell?_setCell_other]
 ·exact World.cell?_setCell_same' _ _ _ h
 ·intro h;simp at h
theorem s_e {w:World} {g:Nat} (x y:Value) (h:(w.cell? ⟨g,1,none⟩).isSome=true):((w.setCell ⟨g,0,none⟩ x).setCell ⟨g,1,none⟩ y).cell? ⟨g,1,none⟩=some y:=by
 refine World.cell?_setCell_same' _ _ _ ?_;rw [World.cell?_setCell_other]
 ·exact h
 ·intro h;simp at h
theorem c_a {w w':World} {a:Addr} {v:Value} (hb:Below w.heap.size w w') (h:w.cell? a=some v) (f:w.frozen? a=false):w'.frozen? a=false:=(hb.frozen (b_d h)).trans f
def PlQ (Q:Nat→Prop) (w:World) (a:Option Addr) (n:Nat) (ps:List (Int×Int)):Prop:=ps.length=n∧(n=0∨∃ b o,a=some ⟨b,o,none⟩∧Q b∧q_a w b o ps)
theorem PlQ.pl {Q:Nat→Prop} {w:World} {a:Option Addr} {n:Nat} {ps:List (Int×Int)} (h:PlQ Q w a n ps):Pl w a n ps:=⟨h.1,h.2.imp id fun ⟨b,o,e,_,r⟩=>⟨b,o,e,r⟩⟩
theorem p_o {Q:Nat→Prop} {F:Nat} {w:World} {a:Option Addr} {n:Nat} {ps:List (Int×Int)} (hQ:∀ b,F≤b→b < w.heap.size→Q b) (h:PlF F w a n ps):PlQ Q w a n ps:=by
 refine ⟨h.1,?_⟩
 by_cases h0:n=0
 ·exact .inl h0
 ·obtain ⟨b,o,e,hf,r⟩:=h.2.resolve_left h0;have:=b_d (r 0 (by have:=h.1;omega)).1;exact .inr ⟨b,o,e,hQ b hf this,r⟩
theorem r_g {Q Q':Nat→Prop} {w:World} {a:Option Addr} {n:Nat} {ps:List (Int×Int)} (hQ:∀ b,Q b→Q' b) (h:PlQ Q w a n ps):PlQ Q' w a n ps:=⟨h.1,h.2.imp id fun ⟨b,o,e,hf,r⟩=>⟨b,o,e,hQ b hf,r⟩⟩
theorem g_S {Q:Nat→Prop} {w w':World} {a:Option Addr} {n:Nat} {ps:List (Int×Int)} (hk:∀ (b o:Nat) (v:Value),Q b→w.cell? ⟨b,o,none⟩=some v→w'.cell? ⟨b,o,none⟩=some v) (h:PlQ Q w a n ps):PlQ Q w' a n ps:=
 ⟨h.1,h.2.imp id fun ⟨b,o,e,hq,r⟩=>⟨b,o,e,hq,fun i hi=>⟨hk _ _ _ hq (r i hi).1,hk _ _ _ hq (r i hi).2⟩⟩⟩
theorem a_r {Q:Nat→Prop} {w w':World} {a:Option Addr} {n:Nat} {zs:List Int} (hk:∀ (b o:Nat) (v:Value),Q b→w.cell? ⟨b,o,none⟩=some v→w'.cell? ⟨b,o,none⟩=some v) (h:SlP Q w a n zs):SlP Q w' a n zs:=
 ⟨h.1,h.2.imp id fun ⟨b,o,e,hq,r⟩=>⟨b,o,e,hq,fun i hi=>hk _ _ _ hq (r i hi)⟩⟩
theorem u_X {Q:Nat→Prop} {w w':World} {a:Option Addr} {n:Nat} {ps:List (Int×Int)} (hb:Below w.heap.size w w') (h:PlQ Q w a n ps):PlQ Q w' a n ps:=g_S (fun _ _ _ _ hv=>a_t hb hv) h
theorem a_1 {w:World} {p:Addr} {x:Value} {Q:Nat→Prop} (hp:∀ b,Q b→b≠p.block):∀ (b o:Nat) (v:Value),Q b→w.cell? ⟨b,o,none⟩=some v→(w.setCell p x).cell? ⟨b,o,none⟩=some v:=by
 intro b o v hq hv;rw [World.cell?_setCell_other]
 ·exact hv
 ·intro e;exact hp b hq (by rw [e])
def BCellQ (Q:Nat→Prop) (w:World) (a:Addr) (b:List (Int×Int)):Prop:=∃ q c,w.cell? a=some (.slice q b.length c)∧d_A q b.length c∧PlQ Q w q b.length b
theorem BCellQ.cell {Q:Nat→Prop} {w:World} {a:Addr} {b:List (Int×Int)} (h:BCellQ Q w a b):m_z w a b:=by
 obtain ⟨q,c,h1,h2,h3⟩:=h;exact ⟨q,c,h1,h2,h3.pl⟩
theorem d_P {Q:Nat→Prop} {w w':World} {a:Addr} {b:List (Int×Int)} (ha:∀ v,w.cell? a=some v→w'.cell? a=some v) (hk:∀ (b o:Nat) (v:Value),Q b→w.cell? ⟨b,o,none⟩=some v→w'.cell? ⟨b,o,none⟩=some v) (h:BCellQ Q w a b):BCellQ Q w' a b:=by
 obtain ⟨q,c,h1,h2,h3⟩:=h;exact ⟨q,c,ha _ h1,h2,g_S hk h3⟩
theorem f_v {Q Q':Nat→Prop} (hQ:∀ b,Q b→Q' b) {w:World} {a:Addr} {b:List (Int×Int)} (h:BCellQ Q w a b):BCellQ Q' w a b:=by
 obtain ⟨q,c,h1,h2,h3⟩:=h;exact ⟨q,c,h1,h2,r_g hQ h3⟩
def BlP (Q:Nat→Prop) (w:World) (a:Option Addr) (n:Nat) (bs:List (List (Int×Int))):Prop:=bs.length=n∧(n=0∨∃ b o,a=some ⟨b,o,none⟩∧Q b∧∀ i,i < bs.length→BCellQ Q w ⟨b,o+i,none⟩ (bs.getD i []))
theorem BlP.bl {Q:Nat→Prop} {w:World} {a:Option Addr} {n:Nat} {bs:List (List (Int×Int))} (h:BlP Q w a n bs):Bl w a n bs:=⟨h.1,h.2.imp id fun ⟨b,o,e,_,r⟩=>⟨b,o,e,fun i hi=>(r i hi).cell⟩⟩
theorem g_4 (Q:Nat→Prop) (w:World):BlP Q w none 0 []:=⟨rfl,.inl rfl⟩
theorem a_G {Q:Nat→Prop} {w w':World} {a:Option Addr} {n:Nat} {bs:List (List (Int×Int))} (hk:∀ (b o:Nat) (v:Value),Q b→w.cell? ⟨b,o,none⟩=some v→w'.cell? ⟨b,o,none⟩=some v) (h:BlP Q w a n bs):BlP Q w' a n bs:=
 ⟨h.1,h.2.imp id fun ⟨b,o,e,hq,r⟩=>⟨b,o,e,hq,fun i hi=>d_P (fun _ hv=>hk _ _ _ hq hv) hk (r i hi)⟩⟩
theorem a_H {Q Q':Nat→Prop} (hQ:∀ b,Q b→Q' b) {w:World} {a:Option Addr} {n:Nat} {bs:List (List (Int×Int))} (h:BlP Q w a n bs):BlP Q' w a n bs:=
 ⟨h.1,h.2.imp id fun ⟨b,o,e,hq,r⟩=>⟨b,o,e,hQ b hq,fun i hi=>f_v hQ (r i hi)⟩⟩
theorem n_z {Q:Nat→Prop} {w w':World} {a:Option Addr} {n:Nat} {bs:List (List (Int×Int))} (hb:Below w.heap.size w w') (h:BlP Q w a n bs):BlP Q w' a n bs:=a_G (fun _ _ _ _ hv=>a_t hb hv) h
def j_f (F g k l:Nat) (bs:List (List (Int×Int))) (w:World):Prop:=bs.length=l∧F≤g∧g < w.heap.size∧(∀ i,i < k→BCellQ (fun b=>F≤b∧b≠g) w ⟨g,i,none⟩ (bs.getD i []))∧(∀ i,k≤i→i < l→w.cell? ⟨g,i,none⟩=some (.slice none 0 0))∧∀ i,i < l→w.frozen? ⟨g,i,none⟩=false
theorem j_t {F g k l:Nat} {bs:List (List (Int×Int))} {w:World} (h:j_f F g k l bs w) {i:Nat} (hi:i < l):(w.cell? ⟨g,i,none⟩).isSome=true:=by
 obtain ⟨h1,h2,h3,h4,h5,h6⟩:=h
 by_cases e:i < k
 ·obtain ⟨q,c,e,_⟩:=h4 i e;rw [e];rfl
 ·rw [h5 i (by omega) hi];rfl
theorem r_1 {F g k l:Nat} {bs:List (List (Int×Int))} {w w':World} (hb:Below w.heap.size w w') (h:j_f F g k l bs w):j_f F g k l bs w':=by
 obtain ⟨h1,h2,h3,h4,h5,h6⟩:=h;have:=hb.size;exact ⟨h1,h2,by omega,fun i hi=>d_P (fun _ hv=>a_t hb hv) (fun _ _ _ _ hv=>a_t hb hv) (h4 i hi),fun i hk hi=>a_t hb (h5 i hk hi),fun i hi=>(hb.frozen (p:=⟨g,i,none⟩) h3).trans (h6 i hi)⟩
theorem q_r {F g k l:Nat} {bs:List (List (Int×Int))} {w:World} (h:j_f F g k l bs w) (j:Nat) (hj:j < l) (hjk:j≤k) (b:List (Int×Int)) {p:Option Addr} {m c:Nat} (hp:PlQ (fun b=>F≤b∧b≠g) w p m b) (hc:d_A p m c) (k':Nat) (hk':k'=if j=k then k+1 else k) (bs':List (List (Int×Int))) (hbs:bs'.length=l) (hb1:bs'.getD j []=b) (hb2:∀ i,i < k→i≠j→bs'.getD i []=bs.getD i []) :
  j_f F g k' l bs' (w.setCell ⟨g,j,none⟩ (.slice p m c)):=by
 have hs:=j_t h hj;obtain ⟨h1,h2,h3,h4,h5,h6⟩:=h;have hkp:∀ (b o:Nat) (v:Value),(F≤b∧b≠g)→w.cell? ⟨b,o,none⟩=some v→(w.setCell ⟨g,j,none⟩ (.slice p m c)).cell? ⟨b,o,none⟩=some v:=a_1 (Q:=fun b=>F≤b∧b≠g) (fun b hb=>hb.2)
 have hne:∀ i,i≠j→∀ v,w.cell? ⟨g,i,none⟩=some v→(w.setCell ⟨g,j,none⟩ (.slice p m c)).cell? ⟨g,i,none⟩=some v:=by
  intro i hi v hv;rw [World.cell?_setCell_other]
  ·exact hv
  ·intro e;exact hi (congrArg Addr.off e).symm
 refine ⟨hbs,h2,by simpa using h3,fun i hi=>?_,fun i hk hi=>?_,fun i hi=>by rw [World.frozen?_setCell];exact h6 i hi⟩
 ·by_cases e:i=j
  ·subst e;obtain rfl:b.length=m:=hp.1;rw [hb1];exact ⟨p,c,World.cell?_setCell_same' _ _ _ hs,hc,g_S hkp hp⟩
  ·have hik:i < k:=by rw [hk'] at hi;split at hi <;> omega
   rw [hb2 i hik e];exact d_P (hne i e) hkp (h4 i hik)
 ·refine hne i ?_ _ (h5 i ?_ hi)
  ·rw [hk'] at hk;split at hk <;> omega
  ·rw [hk'] at hk;split at hk <;> omega
theorem i_C {F g l:Nat} {bs:List (List (Int×Int))} {w:World} (h:j_f F g l l bs w):BlP (fun b=>F≤b) w (some ⟨g,0,none⟩) l bs:=by
 obtain ⟨h1,h2,h3,h4,h5,h6⟩:=h;refine ⟨h1,.inr ⟨g,0,rfl,h2,fun i hi=>?_⟩⟩;rw [Nat.zero_add];exact f_v (fun b hb=>hb.1) (h4 i (by omega))
theorem Tryz.info55:(Tryz.prog.info? 55).map (fun i=>(i.zero,i.size,i.bytes))=some (some (.slice none 0 0),1,24):=by kernel_rfl
def Nb (l:Nat):Array Value:=madeCells #[.slice none 0 0] l
theorem r_T (l i:Nat) (h:i < l):(Nb l)[i]?=some (.slice none 0 0):=by
 unfold Nb madeCells;simp [h,Nat.mod_one]
theorem j_J (n:Nat) (h:n≤1000) (w:World):(Instr.makeSlice 28 (.int .i64 n) (.int .i64 n)).run Tryz.prog w=.ok (.slice (some ⟨w.heap.size,0,none⟩) n n) (w.alloc (.cells (Nb n) 55)):=by
 obtain ⟨i0,hi,hz0,hz1,hz2⟩:=info_parts Tryz.info55;have:=run_make (P:=Tryz.prog) w 28 55 i0 (.slice none 0 0) Tryz.underlying28 hi hz0 .i64 .i64 n n (by omega) (by omega) (by rw [hz2];omega) (by omega);rw [this];simp [hz1,Nb,Value.cells]
theorem q_q (F l:Nat) (bs:List (List (Int×Int))) (w:World) (hl:bs.length=l) (hF:F≤w.heap.size):j_f F w.heap.size 0 l bs (w.alloc (.cells (Nb l) 55)):=
 ⟨hl,hF,by simp,fun i hi=>by omega,fun i _ hi=>a_Y _ _ _ rfl (r_T l i hi),fun i hi=>c_o _ _ rfl⟩
theorem h_5 (a:Option Addr) (n c:Nat) (ps:List (Int×Int)) (w:World) (S:Pl w a n ps) (hcap:d_A a n c) (hn:n≤1000) :
  Calls Tryz.prog 89 #[.slice a n c] w (h_W ps w):=by
 have Hn:=Lib.hid S.1
 cases a with
 | none =>
  obtain rfl:c=0:=hcap.2.2 rfl;obtain rfl:n=0:=by have:=hcap.1;omega
  obtain rfl:ps=[]:=List.eq_nil_of_length_eq_zero Hn.out;have q:=fun w=>i_F 55 59 none 0 0 Tryz.underlying55 w
  clear hcap
  go_enter Tryz.func89,Tryz.ntmps89
  go_wp2
  go_ret
  exact ⟨none,0,rfl,e_e,p_n _ _,Below.refl _ _⟩
 | some p =>
  have HC:Hid (∀ W,Below w.heap.size w W→∀ j u,(b_I ps)[j]?=some u→W.cell? (p.add j)=some u):=by
   intro W hW j u hu;have hj:=N141;obtain ⟨b,o,e,R⟩:=S.2.resolve_left (by rw [←Hn.out];omega)
   cases e
   rw [f_M];exact f_F (r_i hW R) j u hu
  obtain ⟨i0,hi,hz0,hz1,hz2⟩:=N188;have HI:=N44;have q:=fun w=>i_F 55 59 (some p) n c Tryz.underlying55 w
  have h1:=hcap.1;have h2:=hcap.2.1;clear hi hz0 hz1 hz2 hcap S
  go_enter Tryz.func89,Tryz.ntmps89
  go_wp2_with (at_builtin;refine wpList_append_own _ rfl _ _ 55 rfl w.heap.size 59 i0 (.agg #[.int .i64 0,.int .i64 0]) 2 16 Tryz.underlying55 HI.out.1 HI.out.2.1 HI.out.2.2.1 HI.out.2.2.2 rfl (by decide) _ 0 [] rfl (World.ownsRow_made w #[] 0 (Nat.le_refl _) (by decide) (by simp)) p n c (b_I ps) rfl ?c1 ?c2 ?c3 ?c4 ?c5 ?c6 ?_)
  case c1=>rw [b_3,Hn.out]
  case c2=>exact HC.out _ (by go_grown)
  case c3=>exact d_k _
  case c4=>unfold maxLen;omega
  case c5=>omega
  case c6=>simp
  intro v' w1 hown' hgrow _;have hb':=((Below.refl w.heap.size w).alloc (Nat.le_refl _) (.cells #[] 59)).grown hgrow (by simp) (fun r hr=>by cases hr;simp);have ⟨HO,HB⟩:=hh2 hown' hb';clear hown' hb' hgrow
  go_wp2
  go_ret
  exact i_D Hn.out HO.out HB.out
theorem g_O {F g k l:Nat} {bs:List (List (Int×Int))} {w:World} (h:j_f F g k l bs w) {p:Addr} (hp:p.block < F) (v:Value):j_f F g k l bs (w.setCell p v):=by
 obtain ⟨h1,h2,h3,h4,h5,h6⟩:=h;have hk:∀ (b o:Nat) (u:Value),F≤b→w.cell? ⟨b,o,none⟩=some u→(w.setCell p v).cell? ⟨b,o,none⟩=some u:=a_1 (Q:=fun b=>F≤b) (fun b hb=>by omega);exact ⟨h1,h2,by simpa using h3,fun i hi=>d_P (hk g i · h2) (fun b o u hq=>hk b o u hq.1) (h4 i hi),fun i hi hl=>hk _ _ _ h2 (h5 i hi hl),fun i hi=>by rw [World.frozen?_setCell];exact h6 i hi⟩
theorem j_u {F F' g k l:Nat} {bs:List (List (Int×Int))} {w:World} (hF:F'≤F) (h:j_f F g k l bs w):j_f F' g k l bs w:=by
 obtain ⟨h1,h2,h3,h4,h5,h6⟩:=h;exact ⟨h1,by omega,h3,fun i hi=>f_v (fun b hb=>⟨by omega,hb.2⟩) (h4 i hi),h5,h6⟩
theorem f_1 {F F':Nat} {w:World} {a:Option Addr} {n:Nat} {zs:List Int} (hF:F'≤F) (h:SlF F w a n zs):SlF F' w a n zs:=⟨h.1,h.2.imp id fun ⟨b,o,e,hq,r⟩=>⟨b,o,e,by omega,r⟩⟩
theorem t_n {w:World} {g:Nat} (x y z u:Value) (h0:(w.cell? ⟨g,0,none⟩).isSome=true) (h1:(w.cell? ⟨g,1,none⟩).isSome=true) (h2:(w.cell? ⟨g,2,none⟩).isSome=true) (h3:(w.cell? ⟨g,3,none⟩).isSome=true) :
  ((((w.setCell ⟨g,0,none⟩ x).setCell ⟨g,1,none⟩ y).setCell ⟨g,2,none⟩ z).setCell ⟨g,3,none⟩ u).cell? ⟨g,0,none⟩=some x∧((((w.setCell ⟨g,0,none⟩ x).setCell ⟨g,1,none⟩ y).setCell ⟨g,2,none⟩ z).setCell ⟨g,3,none⟩ u).cell? ⟨g,1,none⟩=some y ∧
  ((((w.setCell ⟨g,0,none⟩ x).setCell ⟨g,1,none⟩ y).setCell ⟨g,2,none⟩ z).setCell ⟨g,3,none⟩ u).cell? ⟨g,2,none⟩=some z∧((((w.setCell ⟨g,0,none⟩ x).setCell ⟨g,1,none⟩ y).setCell ⟨g,2,none⟩ z).setCell ⟨g,3,none⟩ u).cell? ⟨g,3,none⟩=some u:=by
 have ne:∀ {i j:Nat},i≠j→(⟨g,j,none⟩:Addr)≠⟨g,i,none⟩:=fun h e=>h (congrArg Addr.off e).symm
 have st:∀ {W:World} {i j:Nat} {v:Value},i≠j→(W.setCell ⟨g,j,none⟩ v).cell? ⟨g,i,none⟩=W.cell? ⟨g,i,none⟩:=fun h=>World.cell?_setCell_other _ _ _ _ (ne h)
 refine ⟨?_,?_,?_,?_⟩
 ·rw [st (by decide),st (by decide),st (by decide)];exact World.cell?_setCell_same' _ _ _ h0
 ·rw [st (by decide),st (by decide)];exact World.cell?_setCell_same' _ _ _ (by rw [st (by decide)];exact h1)
 ·rw [st (by decide)];exact World.cell?_setCell_same' _ _ _ (by rw [st (by decide),st (by decide)];exact h2)
 ·exact World.cell?_setCell_same' _ _ _ (by rw [st (by decide),st (by decide),st (by decide)];exact h3)
def s_n (w1:World) (n n':Nat) (ws ts:List Int) (s3 s4:Value) (wx:World):Prop:=∃ p d p' d',s3=.slice p n d∧s4=.slice p' n' d'∧SlF w1.heap.size wx p n ws∧SlF w1.heap.size wx p' n' ts∧Below w1.heap.size w1 wx
def l_D (ws ts:List Int) (D:Int) (bs:List (List (Int×Int))) (w:World) (e:Ending) (w':World):Prop:=
 ∃ p n d p' n' d' g m,e=.returned (.agg #[.slice p n d,.slice p' n' d',.int .i64 D,.slice (some ⟨g,0,none⟩) m m])∧SlP (fun b=>w.heap.size≤b∧b≠g) w' p n ws∧SlP (fun b=>w.heap.size≤b∧b≠g) w' p' n' ts∧j_f w.heap.size g m m bs w'∧Below w.heap.size w w'
theorem l_4 (w:World) (b:Nat) (x y z u:Value) (k0:w.cell? ⟨b,0,none⟩=some x) (k1:w.cell? ⟨b,1,none⟩=some y) (k2:w.cell? ⟨b,2,none⟩=some z) (k3:w.cell? ⟨b,3,none⟩=some u):(loadVar 109 ⟨b,0,none⟩).run Tryz.prog w=.ok (.agg #[x,y,z,u]) w:=by
 simp [go_sem,k0,k1,k2,k3]
theorem a_9 (w:World) (b:Nat) (x y z u:Value) (k0:w.cell? ⟨b,0,none⟩=some x) (k1:w.cell? ⟨b,1,none⟩=some y) (k2:w.cell? ⟨b,2,none⟩=some z) (k3:w.cell? ⟨b,3,none⟩=some u):(loadVar 30 ⟨b,0,none⟩).run Tryz.prog w=.ok (.agg #[x,y,z,u]) w:=by
 simp [go_sem,k0,k1,k2,k3]
theorem l_a {ws ts:List Int} {D:Int} {bs:List (List (Int×Int))} {w wc wr:World} {p p':Option Addr} {n n' d d' m:Nat} {x y z u:Value}
  (u1:SlF (w.heap.size+2) wc p n ws) (u2:SlF (w.heap.size+2) wc p' n' ts) (hb:Below wc.heap.size wc wr) (O:j_f (w.heap.size+2) wc.heap.size m m bs wr) (hb0:Below w.heap.size w wc) :
  l_D ws ts D bs w (.returned (.agg #[.slice p n d,.slice p' n' d',.int .i64 D,.slice (some ⟨wc.heap.size,0,none⟩) m m])) ((((wr.setCell ⟨w.heap.size+1,0,none⟩ x).setCell ⟨w.heap.size+1,1,none⟩ y).setCell ⟨w.heap.size+1,2,none⟩ z).setCell ⟨w.heap.size+1,3,none⟩ u):=by
 have hz:=hb0.size;have hF:w.heap.size+2≤wc.heap.size:=O.2.1
 have hk:∀ (b o:Nat) (v:Value),(w.heap.size+2≤b∧b < wc.heap.size)→wc.cell? ⟨b,o,none⟩=some v→((((wr.setCell ⟨w.heap.size+1,0,none⟩ x).setCell ⟨w.heap.size+1,1,none⟩ y).setCell ⟨w.heap.size+1,2,none⟩ z).setCell ⟨w.heap.size+1,3,none⟩ u).cell? ⟨b,o,none⟩=some v:=by
  intro b o v hq hv;have ne:∀ j,(⟨w.heap.size+1,j,none⟩:Addr)≠⟨b,o,none⟩:=fun j e=>by have h:=congrArg Addr.block e;dsimp only at h;omega
  rw [World.cell?_setCell_other _ _ _ _ (ne _),World.cell?_setCell_other _ _ _ _ (ne _),World.cell?_setCell_other _ _ _ _ (ne _),World.cell?_setCell_other _ _ _ _ (ne _)];exact a_t hb hv
 have rw':∀ {a:Option Addr} {k:Nat} {zs:List Int},SlF (w.heap.size+2) wc a k zs→SlP (fun b=>w.heap.size+2≤b∧b < wc.heap.size) wc a k zs:=by
  intro a k zs h;refine ⟨h.1,?_⟩
  by_cases h0:k=0
  ·exact .inl h0
  ·obtain ⟨b,o,e,hf,r⟩:=h.2.resolve_left h0;exact .inr ⟨b,o,e,⟨hf,b_d (r 0 (by have:=h.1;omega))⟩,r⟩
 refine ⟨_,_,_,_,_,_,_,_,rfl,a_n (fun b hq=>⟨by omega,by omega⟩) (a_r hk (rw' u1)),a_n (fun b hq=>⟨by omega,by omega⟩) (a_r hk (rw' u2)),?_,?_⟩
 ·exact j_u (by omega) (g_O (g_O (g_O (g_O O (by simp) _) (by simp) _) (by simp) _) (by simp) _)
 ·exact ((((hb0.trans (hb.mono hz)).setCell (by simp) _).setCell (by simp) _).setCell (by simp) _).setCell (by simp) _
theorem e_s (a a' q:Option Addr) (n c n' c' l d:Nat) (ws ts:List Int) (D:Int) (bs:List (List (Int×Int))) (w:World) (S1:Sl w a n ws) (S2:Sl w a' n' ts) (S:Bl w q l bs) (hm:d_o ws ts D bs=true) :
  Calls Tryz.prog 67 #[.agg #[.slice a n c,.slice a' n' c',.int .i64 D,.slice q l d]] w (l_D ws ts D bs w):=by
 obtain ⟨m0,⟨m1,m2⟩,⟨m3,m4⟩,m5⟩:=a_S hm;obtain ⟨z0,z1,z2⟩:=c_v m0;have Hw:=Lib.hid S1.1;have Ht:=Lib.hid S2.1;have Hl:=Lib.hid S.1;have hn1:1≤n:=by rw [←Hw.out];exact z0
 have hn2:n≤160:=by rw [←Hw.out];exact z1
 have hn3:1≤n':=by rw [←Ht.out,z2];exact z0
 have hn4:n'≤160:=by rw [←Ht.out,z2];exact z1
 have hl1:1≤l:=by rw [←Hl.out];exact m1
 have hl2:l≤8:=by rw [←Hl.out];exact m2
 have H5:Hid (∀ i,i < l→(bs.getD i []).length≤8):=fun i hi=>by have:=(m5 i (by rw [Hl.out];exact hi)).1;omega
 clear m0 m1 m2 m3 m4 m5 z0 z1 z2 hm
 go_enter Tryz.func67,Tryz.ntmps67
 go_upto_region 1 with fail
 obtain ⟨W,hW⟩:=nm ((w.alloc (Obj.cells #[.slice a n c,.slice a' n' c',.int .i64 D,.slice q l d] 109)).alloc (Obj.cells #[.slice none 0 0,.slice none 0 0,.int .i64 0,.slice none 0 0] 109));have b0:=N2;have hWs:=N85;have k0:W.cell? ⟨w.heap.size,0,none⟩=some (.slice a n c):=by rw [hW];exact a_8 _ (by simp)
 have k1:W.cell? ⟨w.heap.size,1,none⟩=some (.slice a' n' c'):=by rw [hW];exact a_8 _ (by simp)
 have k2:W.cell? ⟨w.heap.size,2,none⟩=some (.int .i64 D):=by rw [hW];exact a_8 _ (by simp)
 have k3:W.cell? ⟨w.heap.size,3,none⟩=some (.slice q l d):=by rw [hW];exact a_8 _ (by simp)
 have r0:=N226;have r1:=N227;have r2:W.cell? ⟨w.heap.size+1,2,none⟩=some (.int .i64 0):=by rw [hW];simp
 have r3:W.cell? ⟨w.heap.size+1,3,none⟩=some (.slice none 0 0):=by rw [hW];simp
 have f0:∀ i,W.frozen? ⟨w.heap.size+1,i,none⟩=false:=by intro i;rw [hW];exact b_F (a_4 _ _ _ (by simp))
 rw [←hW];have ⟨HWs,HF0⟩:=hh2 hWs f0;have T1:=slB b0 S1;have T2:=slB b0 S2;have T:=blB b0 S;have HB0:=Lib.hid b0;clear hW hWs f0 b0 S1 S2 S
 go_cut [3,4] (fun s3 s4 wx=>s_n W n n' ws ts s3 s4 wx)
 case first =>
  have hB0:=N106
  go_region_held3 (fun w'=>w'.cell? ⟨w.heap.size,0,none⟩=some (.slice a n c)∧w'.cell? ⟨w.heap.size,1,none⟩=some (.slice a' n' c')∧Below W.heap.size W w')
   (first | exact ⟨k0,k1,(Below.refl _ _).drew⟩ | (exact ⟨a_t (by assumption) k0,a_t (by assumption) k1,by assumption⟩))
   ((first | (go_at_call 85;refine (h_4 a n c ws _ (slB (by assumption) T1) (by omega) (.inl (by omega))).mono ?_;rintro e wx ⟨p,d,rfl,u1,hbx⟩;rw [Hw.out] at u1 ⊢;have hbx':=a_a (by assumption) hbx) | (go_at_call 85;refine (h_4 a' n' c' ts _ (slB (by assumption) T2) (by omega) (.inl (by omega))).mono ?_;rintro e wy ⟨p',d',rfl,u2,hby⟩;rw [Ht.out] at u2 ⊢;have hby':=a_a (by assumption) hby)))
  all_goals
   go_wp2_with fail
   go_meet
   first
    | exact ⟨_,_,_,_,rfl,rfl,j_7 hby u1,f_1 (hbx'.size) u2,hby'⟩
    | exact ⟨_,_,_,_,rfl,rfl,f_1 (hby'.size) u1,j_7 hbx u2,hbx'⟩
 case rest =>
  obtain ⟨p,d1,p',d2,rfl,rfl,u1,u2,hbx⟩:=hcut;replace u1:=f_1 (F':=w.heap.size+2) (by rw [HWs.out];exact Nat.le_refl _) u1;replace u2:=f_1 (F':=w.heap.size+2) (by rw [HWs.out];exact Nat.le_refl _) u2;have hmk:=j_J l (by omega);have hsz:w.heap.size+2≤wc.heap.size:=by have:=hbx.size;rw [HWs.out] at this;exact this
  have HBX:=Lib.hid (a_a HB0.out hbx);replace k0:=a_t hbx k0;replace k1:=a_t hbx k1;replace k2:=a_t hbx k2;replace k3:=a_t hbx k3;have f0:=c_a hbx r0 (HF0.out 0);have f1:=c_a hbx r1 (HF0.out 1);have f2:=c_a hbx r2 (HF0.out 2);have f3:=c_a hbx r3 (HF0.out 3);replace r0:=a_t hbx r0;replace r1:=a_t hbx r1;replace r2:=a_t hbx r2;replace r3:=a_t hbx r3;replace T:=blB hbx T;have a3:=a_8 (Obj.cells (Nb l) 55) k3;have ⟨U1,U2⟩:=hh2 u1 u2;clear hbx T1 T2 u1 u2 HWs HF0 HB0
  go_wp2_with fail
  go_loopw [27] (fun i wr=>∃ k:Nat,k≤l∧i=.int .i64 k∧Hid (j_f (w.heap.size+2) wc.heap.size k l bs wr)∧Below wc.heap.size wc wr) (fun i _=>l - (intOf i).toNat)
  case atStart=>exact ⟨0,by omega,rfl,q_q _ _ _ _ Hl.out hsz,(Below.refl _ _).alloc (Nat.le_refl _) _⟩
  case round =>
   obtain ⟨k,hk,rfl,hr,hb⟩:=hrel;have k0':=a_t hb k0;have k1':=a_t hb k1;have k2':=a_t hb k2;have k3':=a_t hb k3;have HB:=Lib.hid hb
   by_cases hlt:k < l
   ·obtain ⟨b,o,y,yc,rfl,g0,hcap,hp⟩:=g_5 (blB hb T) hlt;have h8:=H5.out k hlt;obtain ⟨x,hx⟩:=mn (bs.getD k []);rw [hx] at g0 hp hcap h8;have HX:=Lib.hid hx;obtain ⟨m,hm⟩:=mn (x.length);rw [hm] at g0 hp hcap h8;have HM:=Lib.hid hm;have i1:(0:Int)≤k:=by omega
    have i2:(k:Int) < l:=by omega
    have HC:=Lib.hid hcap;clear hx hm hb hcap
    go_wp2_with (go_at_call 89;refine (h_5 y m yc x _ hp HC.out (by omega)).mono ?_;rintro e w2 ⟨y2,c2,rfl,hc2,hp2,hb2⟩;rw [HM.out] at hc2 hp2 ⊢;have O2:=r_1 hb2 hr.out;have G0:=O2.2.2.2.2.1 k (Nat.le_refl _) hlt;have G1:=O2.2.2.2.2.2 k hlt;have HO2:=Lib.hid O2;have HB2:=Lib.hid hb2;have HP2:=Lib.hid hp2;have HC2:=Lib.hid hc2;clear O2 hb2 hp2 hc2)
    have hsr:=hr.out.2.2.1
    go_roundw
    case rel =>
     refine ⟨k+1,by omega,by go_num,q_r HO2.out k hlt (Nat.le_refl _) x (p_o (F:=wr.heap.size) (fun b h1 h2=>⟨by omega,by omega⟩) HP2.out) HC2.out _ (by simp) bs Hl.out HX.out (fun _ _ _=>rfl),(a_a HB.out HB2.out).setCell (Nat.le_refl _) _⟩
    case measure=>simp [intOf];omega
   ·obtain rfl:k=l:=by omega
    have r0':=a_t hb r0;have r1':=a_t hb r1;have r2':=a_t hb r2;have r3':=a_t hb r3;have f0':=c_a hb r0 f0;have f1':=c_a hb r1 f1;have f2':=c_a hb r2 f2;have f3':=c_a hb r3 f3;clear hb r0 r1 r2 r3 f0 f1 f2 f3 k0 k1 k2 k3
    go_wp2
    have R4:=t_n (w:=wr) (g:=w.heap.size+1) (.slice p n d1) (.slice p' n' d2) (.int .i64 D) (.slice (some ⟨wc.heap.size,0,none⟩) k k) (by rw [r0'];rfl) (by rw [r1'];rfl) (by rw [r2'];rfl) (by rw [r3'];rfl);refine a_X ⟨w.heap.size+1,0,none⟩ rfl rfl rfl (l_4 _ _ _ _ _ _ R4.1 R4.2.1 R4.2.2.1 R4.2.2.2) ?_;exact l_a U1.out U2.out HB.out hr.out HBX.out
end Go.Proofs.YtogdpojnbgeknaaGreatDoor
