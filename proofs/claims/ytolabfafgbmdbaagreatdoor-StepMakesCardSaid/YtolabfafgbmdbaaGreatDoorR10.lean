import Derived.Test.YtolabfafgbmdbaaGreatDoorR8
import Derived.Test.YtolabfafgbmdbaaGreatDoorR9
import Derived.WalkSmall
import Derived.Deep.RegionLawGrows
import Derived.Deep.RegionWith
import Derived.WalkSpells
import Derived.Test.YtolabfafgbmdbaaGreatDoorR0
import Derived.Deep.RegionHeld3
import Derived.Deep.DeepCutAuto
set_option maxRecDepth 100000
set_option maxHeartbeats 16000000
namespace Go.Proofs.YtolabfafgbmdbaaGreatDoor
def e_5 (xs ys:List Int):Bool:=decide (xs=ys)
theorem m_G {xs ys:List Int} (h:xs.length≠ys.length):e_5 xs ys=false:=by
 simp only [e_5,decide_eq_false_iff_not];intro e;rw [e] at h;exact h rfl
theorem o_b {xs ys:List Int} (k:Nat) (h:xs.getD k 0≠ys.getD k 0):e_5 xs ys=false:=by
 simp only [e_5,decide_eq_false_iff_not];intro e;rw [e] at h;exact h rfl
theorem m_F {xs ys:List Int} (hl:xs.length=ys.length) (h:∀ j,j < xs.length→xs.getD j 0=ys.getD j 0):e_5 xs ys=true:=by
 simp only [e_5,decide_eq_true_eq]
 apply List.ext_getElem hl
 intro j h1 h2;have:=h j h1
 simpa [h1,h2] using this
theorem g_I (xs:List Int):e_5 xs xs=true:=by simp [e_5]
def l_i (xs ys:List Int) (k:Nat):Prop:=∀ j,j < k→xs.getD j 0=ys.getD j 0
theorem j_k {xs ys:List Int} {k:Nat} {x y:Int} (h:l_i xs ys k) (hx:xs.getD k 0=x) (hy:ys.getD k 0=y) (e:x=y):l_i xs ys (k+1):=by
 intro j hj
 by_cases c:j=k
 ·subst c;rw [hx,hy,e]
 ·exact h j (by omega)
end Go.Proofs.YtolabfafgbmdbaaGreatDoor
namespace Go.Proofs.YtolabfafgbmdbaaGreatDoor
open Go.ChangeShapes Go.WideShapes Go.ChangeAt Go.RowKit
theorem j_b {B:Nat} {w:World} {v:Value} {n:Nat} {zs:List Int} (h:w.ownsRow B 3 1 v n (zs.map (Value.int .i64))):∃ a c,v=.slice a n c∧SlF B w a n zs:=by
 obtain ⟨hl,h⟩:=h;have hl':zs.length=n:=by simpa using hl
 rcases h with ⟨rfl,h0⟩ | ⟨g,cap,cur,rfl,hb,hg,hn,hm,hs,ht⟩
 ·exact ⟨none,0,by rw [h0],hl',.inl h0⟩
 ·refine ⟨_,_,rfl,hl',.inr ⟨g,0,rfl,hb,fun i hi=>?_⟩⟩;simp only [World.cell?,hg];have e:(zs.map (Value.int .i64))[i]?=some (.int .i64 (zs.getD i 0)):=by simp [hi]
  rw [←ht,List.getElem?_take,if_pos (by omega)] at e
  simpa using e
def h_t (zs:List Int) (w:World) (e:Ending) (w':World):Prop:=∃ a c,e=.returned (.slice a zs.length c)∧SlF w.heap.size w' a zs.length zs∧Below w.heap.size w w'
theorem h_H {zs:List Int} {w w':World} {v:Value} {n:Nat} (hn:zs.length=n) (h:w'.ownsRow w.heap.size 3 1 v n (zs.map (Value.int .i64))) (hb:Below w.heap.size w w'):h_t zs w (.returned v) w':=by
 subst hn;obtain ⟨a,c,rfl,hs⟩:=j_b h;exact ⟨a,c,rfl,hs,hb⟩
theorem m_D {w:World} {b off:Nat} {zs:List Int} (R:Row w b off zs):∀ j u,(zs.map (Value.int .i64))[j]?=some u→w.cell? ((⟨b,off,none⟩:Addr).add j)=some u:=by
 intro j u hu;rw [f_p];have hj:j < zs.length:=by simpa using (List.getElem?_eq_some_iff.1 hu).1
 rw [R j hj];simp [hj] at hu;simp [hj,hu]
theorem g_0 (t e:TypeId) (a:Option Addr) (n c:Nat) (h:Tryz.prog.underlying t=some (.slice e)) (w:World):(binOp .eql t (.slice a n c) (.slice none 0 0)).run Tryz.prog w=.ok (.bool a.isNone) w:=by
 simp only [binOp];simp [Op.equal,Op.maxDepth,Lib.run_equalIn_slice_nil w 9999 t e a n c 0 0 h]
theorem g_s (a:Option Addr) (n c:Nat) (zs:List Int) (w:World) (S:Sl w a n zs) (hn:n≤1000) (ha:n≠0∨(a=none∧c=0)) :
  Calls Tryz.prog 85 #[.slice a n c] w (h_t zs w):=by
 obtain ⟨i0,hi,hz0,hz1,hz2⟩:=info_parts Tryz.info3;have HI:=N46;have Hn:=Lib.hid S.1;clear hi hz0 hz1 hz2
 by_cases h0:n=0
 ·obtain ⟨rfl,rfl⟩:=ha.resolve_left (by omega);subst h0;obtain rfl:zs=[]:=List.eq_nil_of_length_eq_zero Hn.out;have q:=fun w=>g_0 23 3 none 0 0 Tryz.underlying23 w
  go_enter Tryz.func85,Tryz.ntmps85
  go_wp2
  go_ret
  exact ⟨none,0,rfl,f_Z _ _,Below.refl _ _⟩
 ·obtain ⟨b,o,rfl,R⟩:=S.2.resolve_left h0;have q:=fun w=>g_0 23 3 (some ⟨b,o,none⟩) n c Tryz.underlying23 w
  go_enter Tryz.func85,Tryz.ntmps85
  go_wp2_with (at_builtin;refine wpList_append_own _ rfl _ _ 23 rfl w.heap.size 3 i0 (.int .i64 0) 1 8 Tryz.underlying23 HI.out.1 HI.out.2.1 HI.out.2.2.1 HI.out.2.2.2 rfl (by decide) _ 0 [] rfl (World.ownsRow_made w #[] 0 (Nat.le_refl _) (by decide) (by simp)) ⟨b,o,none⟩ n c (zs.map (Value.int .i64)) rfl ?c1 ?c2 ?c3 ?c4 ?c5 ?c6 ?_)
  case c1=>simp [Hn.out]
  case c2=>exact m_D (j_1 _ R)
  case c3=>intro v hv;simp at hv;obtain ⟨z,_,rfl⟩:=hv;rfl
  case c4=>unfold maxLen;omega
  case c5=>omega
  case c6=>simp
  intro v' w1 hown' hgrow _;have hb':=N36;have ⟨HO,HB⟩:=hh2 hown' hb';clear hown' hb' hgrow
  go_wp2
  go_ret
  exact h_H Hn.out HO.out HB.out
def g_m (ps:List (Int×Int)) (w:World) (e:Ending) (w':World):Prop:=∃ a c,e=.returned (.slice a ps.length c)∧c_0 a ps.length c∧PlF w.heap.size w' a ps.length ps∧Below w.heap.size w w'
theorem g_X {ps:List (Int×Int)} {w w':World} {v:Value} {n:Nat} (hn:ps.length=n) (h:w'.ownsRow w.heap.size 59 2 v n (b_p ps)) (hb:Below w.heap.size w w'):g_m ps w (.returned v) w':=by
 subst hn;obtain ⟨a,c,rfl,hc,hs⟩:=f_N h;exact ⟨a,c,rfl,hc,hs,hb⟩
def e_j (ps:List (Int×Int)) (x:Int) (w:World) (e:Ending) (w':World):Prop:=∃ a c,e=.returned (.tuple #[.slice a ps.length c,.int .i64 x])∧c_0 a ps.length c∧PlF w.heap.size w' a ps.length ps∧Below w.heap.size w w'
theorem c_V {x:Int} {ps:List (Int×Int)} (he:ps=[]) {w w':World} (hb:Below w.heap.size w w'):e_j ps x w (.returned (.tuple #[.slice none 0 0,.int .i64 x])) w':=by
 subst he;exact ⟨none,0,rfl,c_3,m_y _ _,hb⟩
theorem f_P {ps qs:List (Int×Int)} {w w':World} {v:Value} {n:Nat} (hq:qs=ps) (hn:ps.length=n) {B:Nat} (hB:w.heap.size≤B) (h:w'.ownsRow B 59 2 v n (b_p ps)) (hb:Below w.heap.size w w'):e_j qs 0 w (.returned (.tuple #[v,.int .i64 0])) w':=by
 subst hq;subst hn;obtain ⟨a,c,rfl,hc,hs⟩:=f_N h;exact ⟨a,c,rfl,hc,n_9 hB hs,hb⟩
theorem h_L {w W w1:World} (hg:W.grownBy w1 none) (hb:Below w.heap.size w W):Below w.heap.size w w1∧w.heap.size≤W.heap.size:=
 ⟨hb.grown hg hb.size (fun _ hr=>by cases hr),hb.size⟩
theorem h_Z {W:World} {g:Nat} {x y:Int} (k0:W.cell? ⟨g,0,none⟩=some (.int .i64 x)) (k1:W.cell? ⟨g,1,none⟩=some (.int .i64 y)):∀ j u,(b_p [(x,y)])[j]?=some u→W.cell? ((⟨g,0,none⟩:Addr).add j)=some u:=by
 intro j u hu;rw [f_p,Nat.zero_add];have hj:j < 2:=(List.getElem?_eq_some_iff.1 hu).1;have:j=0∨j=1:=by omega
 rcases this with rfl | rfl
 ·simp [b_p] at hu;subst hu;exact k0
 ·simp [b_p] at hu;subst hu;exact k1
theorem l_h (p:Addr) (n c:Nat) (ps:List (Int×Int)) (depth x y:Int) (w:World) (S:Pl w (some p) n ps) (hc:n≤c) (h3:c≤9223372036854775807) (d0:0≤depth) (d1:depth≤8) (d2:(n:Int)≤depth) (d3:(n:Int)≠depth) :
  Calls Tryz.prog 150 #[.slice (some p) n c,.int .i64 depth,.agg #[.int .i64 x,.int .i64 y]] w (e_j (d_F ps depth (x,y)) 0 w):=by
 have Hn:=Lib.hid S.1;have HE:=Lib.hid (show c_7 n depth=0 by rw [c_7,if_neg (by omega),if_neg d3]);have HL:=Lib.hid (show d_F ps depth (x,y)=ps++[(x,y)] by rw [d_F,Hn.out,HE.out,if_pos rfl]);have q:((n:Int)==depth)=false:=by simpa using d3
 obtain ⟨i0,hi,hz0,hz1,hz2⟩:=info_parts Tryz.info59;have HI:=N46;have hn8:n≤8:=by omega
 have holds:∀ W,Below w.heap.size w W→∀ b,some p=some b→∀ j u,(b_p ps)[j]?=some u→W.cell? (b.add j)=some u:=by
  intro W hW b hb j u hu
  cases hb
  have hj:=N103;obtain ⟨b,o,e,R⟩:=S.2.resolve_left (by rw [←Hn.out];omega)
  cases e
  rw [f_p];exact f_O (p_C hW R) j u hu
 have HH:=Lib.hid holds;clear d3 hi hz0 hz1 hz2 holds
 go_enter Tryz.func150,Tryz.ntmps150
 go_wp2
 go_region_law (refine step_append_grows rfl (.tmp 29) (.tmp 31) 55 rfl 59 i0 (.agg #[.int .i64 0,.int .i64 0]) 2 16 Tryz.underlying55 HI.out.1 HI.out.2.1 HI.out.2.2.1 HI.out.2.2.2 rfl (by decide) (some p) n n (b_p ps) (by simp [Act.eval]) (fun e=>by cases e) (by rw [b_N,Hn.out]) (HH.out _ (by go_grown)) ⟨w.heap.size+1,0,none⟩ 1 1 (b_p [(x,y)]) (by simp [Act.eval]) rfl (h_Z (by simp) (by simp)) (e_4 _) (by omega) (by unfold maxLen;omega) (by omega) ?_;intro v' w1 hown hgrow)
 all_goals
  obtain ⟨hb',hsz⟩:=h_L hgrow (w:=w) (by go_grown);rw [←e_t] at hown;have ⟨HO,HB⟩:=hh2 hown hb';clear hown hb' hgrow
  go_wp2
  go_ret2
  exact f_P HL.out (by rw [List.length_append,Hn.out];rfl) hsz HO.out HB.out
theorem l_g (depth x y:Int) (w:World) (d1:depth≤8) (d3:0 < depth) :
  Calls Tryz.prog 150 #[.slice none 0 0,.int .i64 depth,.agg #[.int .i64 x,.int .i64 y]] w (e_j (d_F [] depth (x,y)) 0 w):=by
 have HE:=Lib.hid (show c_7 0 depth=0 by rw [c_7,if_neg (by omega),if_neg (by omega)]);have HL:=Lib.hid (show d_F [] depth (x,y)=[]++[(x,y)] by rw [d_F,List.length_nil,HE.out,if_pos rfl]);have q:((0:Int)==depth)=false:=by simp;omega
 have q1:decide (depth < 0)=false:=by simp;omega
 obtain ⟨i0,hi,hz0,hz1,hz2⟩:=info_parts Tryz.info59;have HI:=N46;clear hi hz0 hz1 hz2
 go_enter Tryz.func150,Tryz.ntmps150
 go_wp2
 go_region_law (refine step_append_grows rfl (.tmp 29) (.tmp 31) 55 rfl 59 i0 (.agg #[.int .i64 0,.int .i64 0]) 2 16 Tryz.underlying55 HI.out.1 HI.out.2.1 HI.out.2.2.1 HI.out.2.2.2 rfl (by decide) none 0 0 (b_p []) (by simp [Act.eval]) (fun _=>⟨rfl,rfl⟩) rfl (fun b hb=>by cases hb) ⟨w.heap.size+1,0,none⟩ 1 1 (b_p [(x,y)]) (by simp [Act.eval]) rfl (h_Z (by simp) (by simp)) (e_4 _) (by omega) (by unfold maxLen;omega) (by omega) ?_;intro v' w1 hown hgrow)
 all_goals
  obtain ⟨hb',hsz⟩:=h_L hgrow (w:=w) (by go_grown);rw [←e_t] at hown;have ⟨HO,HB⟩:=hh2 hown hb';clear hown hb' hgrow
  go_wp2
  go_ret2
  exact f_P HL.out rfl hsz HO.out HB.out
theorem n_g (a:Option Addr) (n c:Nat) (ps:List (Int×Int)) (depth x y:Int) (w:World) (S:Pl w a n ps) (hcap:c_0 a n c) :
  Calls Tryz.prog 150 #[.slice a n c,.int .i64 depth,.agg #[.int .i64 x,.int .i64 y]] w (e_j (d_F ps depth (x,y)) (c_7 n depth) w):=by
 obtain ⟨hc,h3,h0⟩:=hcap;have Hn:=Lib.hid S.1;have H0:=Lib.hid h0;clear h0
 by_cases d0:depth < 0
 ·have HE:=Lib.hid (show c_7 n depth=1 by rw [c_7,if_pos (.inl d0)]);exact J42
 ·by_cases d1:8 < depth
  ·have HE:=Lib.hid (show c_7 n depth=1 by rw [c_7,if_pos (.inr (.inl d1))]);exact J42
  ·by_cases d2:depth < n
   ·have HE:=Lib.hid (show c_7 n depth=1 by rw [c_7,if_pos (.inr (.inr d2))]);exact J42
   ·by_cases d3:(n:Int)=depth
    ·have HE:=Lib.hid (show c_7 n depth=7 by rw [c_7,if_neg (by omega),if_pos d3]);have HL:=Lib.hid (show d_F ps depth (x,y)=[] by rw [d_F,Hn.out,HE.out,if_neg (by decide)]);rw [HE.out];have q:((n:Int)==depth)=true:=by simpa using d3
     clear d3
     go_enter Tryz.func150,Tryz.ntmps150
     go_wp2
     go_ret2
     exact c_V HL.out (by go_grown)
    ·have HE:=Lib.hid (show c_7 n depth=0 by rw [c_7,if_neg (by omega),if_neg d3]);rw [HE.out]
     cases a with
     | some p=>exact l_h p n c ps depth x y w S hc h3 (by omega) (by omega) (by omega) d3
     | none =>
      obtain rfl:c=0:=H0.out rfl;obtain rfl:n=0:=by omega
      obtain rfl:ps=[]:=List.eq_nil_of_length_eq_zero S.1;exact l_g depth x y w (by omega) (by omega)
theorem p_p (x y x' y':Int) (w:World):(binOp .neq 59 (.agg #[.int .i64 x,.int .i64 y]) (.agg #[.int .i64 x',.int .i64 y'])).run Tryz.prog w=.ok (.bool (!(x==x'&&y==y'))) w:=by
 simp [go_sem,binOp,Op.equal,Op.maxDepth]
 by_cases h1:x=x'
 ·by_cases h2:y=y'
  ·simp [h1,h2]
  ·simp [h1,h2]
 ·simp [h1]
theorem h_4 (a b:Option Addr) (n c m d:Nat) (xs ys:List (Int×Int)) (w:World) (S1:Pl w a n xs) (S2:Pl w b m ys) (hn:n≤9223372036854775807) :
  Calls Tryz.prog 72 #[.slice a n c,.slice b m d] w (a_B (e_z xs ys) w):=by
 have Hx:=Lib.hid S1.1;have Hy:=Lib.hid S2.1
 by_cases hl:m=n
 ·subst hl;have q:((m:Int) != m)=false:=by simp
  go_enter Tryz.func72,Tryz.ntmps72
  go_wp2
  go_loopw [13] (fun s wr=>∃ k:Nat,k≤m∧s=.int .i64 k∧Hid (g_Q xs ys k)∧Below w.heap.size w wr) (fun s _=>m - (intOf s).toNat)
  case atStart=>exact ⟨0,by omega,rfl,by intro j hj;omega,Below.refl _ _⟩
  case round =>
   obtain ⟨k,hk,rfl,hs,hb⟩:=hrel
   by_cases hlt:k < m
   ·obtain ⟨b1,o1,rfl,R1⟩:=S1.2.resolve_left (by omega);obtain ⟨b2,o2,rfl,R2⟩:=S2.2.resolve_left (by omega);have g1:=a_n hb (R1 k (by rw [Hx.out];exact hlt)).1;have g2:=a_n hb (R1 k (by rw [Hx.out];exact hlt)).2;have g3:=a_n hb (R2 k (by rw [Hy.out];exact hlt)).1;have g4:=a_n hb (R2 k (by rw [Hy.out];exact hlt)).2;obtain ⟨x,hxv⟩:=mn (xs.getD k (0,0));obtain ⟨y,hyv⟩:=mn (ys.getD k (0,0));rw [hxv] at g1 g2;rw [hyv] at g3 g4;obtain ⟨x1,x2⟩:=x;obtain ⟨y1,y2⟩:=y;have ⟨HX,HY,HB⟩:=hh3 hxv hyv hb;have i1:(0:Int)≤k:=by omega
    have i2:(k:Int) < m:=by omega
    dsimp only at g1 g2 g3 g4;clear hxv hyv hb;have q4:=fun w=>p_p x1 x2 y1 y2 w
    by_cases e:x1=y1∧x2=y2
    ·obtain ⟨rfl,rfl⟩:=e;have HS:=Lib.hid (i_a hs.out (HX.out.trans HY.out.symm));have q2:(x1==x1&&x2==x2)=true:=by simp
     exact J83
    ·have HF:=Lib.hid (m_H (xs:=xs) (ys:=ys) k (by rw [HX.out,HY.out];intro h;cases h;exact e ⟨rfl,rfl⟩))
     have q2:(x1==y1&&x2==y2)=false:=by
      rw [Bool.eq_false_iff];intro h;simp at h;exact e h
     clear e
     go_wp2
     go_quiet (fail)
     go_wp2
     go_ret
     exact a_e HF.out (below_drewN HB.out _)
   ·obtain rfl:k=m:=by omega
    have HF:=Lib.hid (k_U (xs:=xs) (ys:=ys) (by rw [Hx.out,Hy.out]) (by rw [Hx.out];exact hs.out))
    go_wp2
    go_ret
    exact a_e HF.out hb
 ·have HF:=Lib.hid (k_V (xs:=xs) (ys:=ys) (by rw [Hx.out,Hy.out];omega));have q:=N60;clear hl
  go_enter Tryz.func72,Tryz.ntmps72
  go_wp2
  go_ret
  exact a_e HF.out (Below.refl _ _)
theorem e_F (a a' q:Option Addr) (n c n' c' l d:Nat) (D x y:Int) (w:World) :
  Calls Tryz.prog 110 #[.agg #[.slice a n c,.slice a' n' c',.int .i64 D,.slice q l d],.agg #[.int .i64 x,.int .i64 y]] w (a_B (!(inP n (x,y))) w):=by
 have H:=Lib.hid (show inP n (x,y)=decide (0≤x∧x < n) from rfl)
 by_cases h1:0≤x
 ·have q1:decide (x < 0)=false:=by simp;omega
  go_enter Tryz.func110,Tryz.ntmps110
  go_wp2
  go_ret
  exact a_e (by rw [H.out,Bool.eq_iff_iff];simp;omega) (by go_grown)
 ·have q1:decide (x < 0)=true:=by simp;omega
  go_enter Tryz.func110,Tryz.ntmps110
  go_wp2
  go_ret
  exact a_e (by rw [H.out];simp [h1]) (by go_grown)
def k_8 (t:Bool) (w:World) (e:Ending) (w':World):Prop:=∃ i:Int,e=.returned (.int .i64 i)∧decide (0≤i)=t∧Below w.heap.size w w'
theorem g_z {t:Bool} {w w':World} {i:Int} (h:decide (0≤i)=t) (hb:Below w.heap.size w w'):k_8 t w (.returned (.int .i64 i)) w':=⟨i,rfl,h,hb⟩
theorem o_W {N:Nat} {b:List (Int×Int)} {k:Nat} (hk:k < b.length) (h:inP N (b.getD k (0,0))=false):b.all (inP N)=false:=by
 have e:b.getD k (0,0)=b[k]:=by simp [hk]
 rw [e] at h;exact List.all_eq_false.2 ⟨b[k],List.getElem_mem hk,by rw [h];decide⟩
theorem n_n {N:Nat} {b:List (Int×Int)} (h:g_o N b b.length):b.all (inP N)=true:=by
 simp only [List.all_eq_true];intro p hp;obtain ⟨i,hi,rfl⟩:=List.mem_iff_getElem.1 hp;have:=h i hi
 simpa [hi] using this
theorem i_P (p:Option Addr) (m mc:Nat) (ps:List (Int×Int)) (a a' q:Option Addr) (n c n' c' l d:Nat) (D:Int) (w:World) (S:Pl w p m ps) (hm:m≤9223372036854775807) :
  Calls Tryz.prog 129 #[.slice p m mc,.func (.func 110) #[.agg #[.slice a n c,.slice a' n' c',.int .i64 D,.slice q l d]] #[]] w (k_8 (!(ps.all (inP n))) w):=by
 have Hn:=Lib.hid S.1
 go_enter Tryz.func129,Tryz.ntmps129
 go_wp2
 go_loopw [8] (fun s wr=>∃ k:Nat,k≤m∧s=.int .i64 k∧Hid (g_o n ps k)∧Below w.heap.size w wr) (fun s _=>m - (intOf s).toNat)
 case atStart=>exact ⟨0,by omega,rfl,by intro j hj;omega,Below.refl _ _⟩
 case round =>
  obtain ⟨k,hk,rfl,hs,hb⟩:=hrel
  by_cases hlt:k < m
  ·obtain ⟨b,o,rfl,R⟩:=S.2.resolve_left (by omega);have g:=R k (by rw [Hn.out];exact hlt);have g1:=a_n hb g.1;have g2:=a_n hb g.2;obtain ⟨x,hx⟩:=mn (ps.getD k (0,0));rw [hx] at g1 g2;obtain ⟨x1,x2⟩:=x;have ⟨HX,HB⟩:=hh2 hx hb;dsimp only at g1 g2;have i1:(0:Int)≤k:=by omega
   have i2:(k:Int) < m:=by omega
   clear g hx hb
   cases hin:inP n (x1,x2) with
   | true =>
    have HS:=Lib.hid (f_Q hs.out (by rw [HX.out];exact hin));have HI:=Lib.hid hin;clear hin
    go_wp2_with (go_at_call 110;refine (e_F a a' q n c n' c' l d D x1 x2 _).mono ?_;rw [HI.out];rintro e w1 ⟨rfl,hb1⟩;have HB1:=Lib.hid (a_b HB.out hb1);clear hb1)
    go_roundw
    case rel=>exact ⟨k+1,by omega,by go_num,HS.out,HB1.out⟩
    case measure=>simp [intOf];omega
   | false =>
    have HS:=Lib.hid (o_W (N:=n) (b:=ps) (k:=k) (by rw [Hn.out];exact hlt) (by rw [HX.out];exact hin));have HI:=Lib.hid hin;clear hin
    go_wp2_with (go_at_call 110;refine (e_F a a' q n c n' c' l d D x1 x2 _).mono ?_;rw [HI.out];rintro e w1 ⟨rfl,hb1⟩;have HB1:=Lib.hid (a_b HB.out hb1);clear hb1)
    go_ret
    exact g_z (by rw [HS.out];simp) HB1.out
  ·obtain rfl:k=m:=by omega
   have HS:=Lib.hid (n_n (N:=n) (b:=ps) (by rw [Hn.out];exact hs.out));have HB:=Lib.hid hb;clear hb
   go_wp2
   go_ret
   exact g_z (by rw [HS.out];rfl) HB.out
theorem d_r (p:Option Addr) (m mc:Nat) (ps:List (Int×Int)) (a a' q:Option Addr) (n c n' c' l d:Nat) (D:Int) (w:World) (S:Pl w p m ps) (hm:m≤9223372036854775807) :
  Calls Tryz.prog 109 #[.slice p m mc,.func (.func 110) #[.agg #[.slice a n c,.slice a' n' c',.int .i64 D,.slice q l d]] #[]] w (a_B (!(ps.all (inP n))) w):=by
 go_enter Tryz.func109,Tryz.ntmps109
 go_wp2_with fail
 refine (i_P p m mc ps a a' q n c n' c' l d D _ S hm).mono ?_;rintro e w1 ⟨i,rfl,ht,hb⟩;have ⟨HT,HB⟩:=hh2 ht hb;clear ht hb
 go_wp2
 go_ret
 exact a_e HT.out.symm HB.out
theorem d_J (a a' q:Option Addr) (n c n' c' l d:Nat) (ws ts:List Int) (D:Int) (bs:List (List (Int×Int))) (w:World) (S1:Sl w a n ws) (S2:Sl w a' n' ts) (S:Bl w q l bs) :
  Calls Tryz.prog 73 #[.agg #[.slice a n c,.slice a' n' c',.int .i64 D,.slice q l d]] w (a_B (c_P ws ts D bs) w):=by
 have Hn:=Lib.hid S1.1;have Hl:=Lib.hid S.1;have hmf:=N28
 cases hm:c_E ws ts with
 | false =>
  have HM:=Lib.hid hm;have HT:=Lib.hid (show c_P ws ts D bs=false by simp [c_P,hm]);clear hm
  go_enter Tryz.func73,Tryz.ntmps73
  go_wp2_with fail
  refine (b_z a a' n c n' c' ws ts _ (slA _ S1) (slA _ S2)).mono ?_;exact J81
 | true =>
  have HM:=Lib.hid hm;clear hm
  by_cases hs:b_r l D=true
  ·have hs':b_r bs.length D=true:=by rw [Hl.out];exact hs
   have HS:=Lib.hid hs';simp only [b_r,decide_eq_true_eq] at hs;obtain ⟨s1,s2,s3,s4⟩:=hs;have s1':1≤l:=by omega
   have s2':l≤8:=by omega
   clear hs'
   go_enter Tryz.func73,Tryz.ntmps73
   go_wp2_with fail
   refine (b_z a a' n c n' c' ws ts _ (slA _ S1) (slA _ S2)).mono ?_;rintro e w1 ⟨rfl,hb⟩;rw [HM.out];have hb1:=N4;have c0:=N101;have c1:=N96;have c2:=N43;have c3:=N32;have HB1:=Lib.hid hb1;have S':=blB hb1 S;clear hb hb1
   go_wp2
   go_loopw [38] (fun s wr=>∃ k:Nat,k≤l∧s=.int .i64 k∧Hid (h_s ws.length D bs k)∧Below w1.heap.size w1 wr) (fun s _=>l - (intOf s).toNat)
   case atStart=>exact ⟨0,by omega,rfl,by intro j hj;omega,Below.refl _ _⟩
   case round =>
    obtain ⟨k,hk,rfl,hr,hb⟩:=hrel;have c0':=a_n hb c0;have c1':=a_n hb c1;have c2':=a_n hb c2;have c3':=a_n hb c3;have HB:=Lib.hid hb
    by_cases hlt:k < l
    ·obtain ⟨b,o,p,pc,rfl,k0,hcap,hp⟩:=h_C (blB hb S') hlt;obtain ⟨x,hx⟩:=mn (bs.getD k []);rw [hx] at k0 hp hcap;have HX:=Lib.hid hx;obtain ⟨m,hm⟩:=mn (x.length);rw [hm] at k0 hp hcap;have HM:=Lib.hid hm;have hcap1:=hcap.1;have hcap2:=hcap.2.1;have i1:(0:Int)≤k:=by omega
     have i2:(k:Int) < l:=by omega
     clear hx hm hb hcap
     by_cases hD:D < m
     ·have HF:=Lib.hid (f_s (ws:=ws) (ts:=ts) (D:=D) (bs:=bs) (k:=k) (by rw [Hl.out];exact hlt) (by rw [HX.out];simp [h_q,HM.out];omega));exact J64
     ·have hD':(m:Int)≤D:=by omega
      cases hin:x.all (inP n) with
      | false =>
       have HF:=Lib.hid (f_s (ws:=ws) (ts:=ts) (D:=D) (bs:=bs) (k:=k) (by rw [Hl.out];exact hlt) (by rw [HX.out,Hn.out];simp only [h_q];rw [hin];simp));have HI:=Lib.hid hin;clear hin
       go_wp2_with (go_at_call 109;refine (d_r p m pc x a a' (some ⟨b,o,none⟩) n c n' c' l d D _ hp (by omega)).mono ?_;rw [HI.out];rintro e w2 ⟨rfl,hb2⟩;have HB2:=Lib.hid (a_b HB.out hb2);clear hb2)
       go_ret
       exact a_e HF.out (HB1.out.trans (HB2.out.mono HB1.out.size))
      | true =>
       have HF:=Lib.hid (f_B hr.out (by rw [HX.out,Hn.out];simp only [h_q,HM.out];rw [hin];simpa using hD'));have HI:=Lib.hid hin;clear hin
       go_wp2_with (go_at_call 109;refine (d_r p m pc x a a' (some ⟨b,o,none⟩) n c n' c' l d D _ hp (by omega)).mono ?_;rw [HI.out];rintro e w2 ⟨rfl,hb2⟩;have HB2:=Lib.hid (a_b HB.out hb2);clear hb2)
       go_roundw
       case rel=>exact ⟨k+1,by omega,by go_num,HF.out,HB2.out⟩
       case measure=>simp [intOf];omega
    ·obtain rfl:k=l:=by omega
     have HF:=Lib.hid (h_U HM.out HS.out (by rw [Hl.out];exact hr.out));clear hb;exact J64
  ·have HT:=Lib.hid (show c_P ws ts D bs=false by
    have:b_r bs.length D=false:=by rw [Hl.out];simpa using hs
    simp [c_P,this])
   have hs':¬ ((1:Int)≤l∧(l:Int)≤8∧0≤D∧D≤8):=by simpa [b_r] using hs
   clear hs
   go_enter Tryz.func73,Tryz.ntmps73
   go_wp2_with fail
   refine (b_z a a' n c n' c' ws ts _ (slA _ S1) (slA _ S2)).mono ?_;rintro e w1 ⟨rfl,hb⟩;rw [HM.out];have hb1:=N4;have c2:=N43;have c3:=N32;have HB1:=Lib.hid hb1;clear hb hb1
   by_cases d0:D < 0
   ·go_wp2
    go_ret
    exact a_e HT.out HB1.out
   ·by_cases d1:8 < D
    ·go_wp2
     go_ret
     exact a_e HT.out HB1.out
    ·by_cases d2:(l:Int) < 1
     ·go_wp2
      go_ret
      exact a_e HT.out HB1.out
     ·have d3:8 < (l:Int):=by omega
      go_wp2
      go_ret
      exact a_e HT.out HB1.out
theorem d_a (a a' q:Option Addr) (n c n' c' l d:Nat) (ws ts:List Int) (D th:Int) (bs:List (List (Int×Int))) (w:World) (S1:Sl w a n ws) (S2:Sl w a' n' ts) (S:Bl w q l bs) :
  Calls Tryz.prog 147 #[.agg #[.slice a n c,.slice a' n' c',.int .i64 D,.slice q l d],.int .i64 th] w (a_B (c_P ws ts D bs&&thB bs th) w):=by
 have Hl:=Lib.hid S.1;have HT:=Lib.hid (show thB bs th=decide (0≤th∧th < l) by rw [thB,Hl.out])
 cases hm:c_P ws ts D bs with
 | false =>
  have HM:=Lib.hid hm;clear hm
  go_enter Tryz.func147,Tryz.ntmps147
  go_wp2_with fail
  refine (d_J a a' q n c n' c' l d ws ts D bs _ (slA _ S1) (slA _ S2) (blA _ S)).mono ?_;rintro e w1 ⟨rfl,hb⟩;rw [HM.out];have HB:=N50;clear hb
  go_wp2
  go_ret
  exact a_e (by simp) HB.out
 | true =>
  have HM:=Lib.hid hm;clear hm
  by_cases h0:0≤th
  all_goals
   have q0:decide (0≤th)=decide (0≤th):=rfl
   go_enter Tryz.func147,Tryz.ntmps147
   go_wp2_with fail
   refine (d_J a a' q n c n' c' l d ws ts D bs _ (slA _ S1) (slA _ S2) (blA _ S)).mono ?_;rintro e w1 ⟨rfl,hb⟩;rw [HM.out];have c3:=N32;have HB:=N50;clear hb q0
   go_wp2
   go_ret
   exact a_e (by rw [HT.out,Bool.eq_iff_iff];simp;try omega) HB.out
theorem o_d {Q:Nat→Prop} {F:Nat} {w:World} {a:Option Addr} {n:Nat} {zs:List Int} (hQ:∀ b,Q b→F≤b) (h:SlP Q w a n zs):SlF F w a n zs:=⟨h.1,h.2.imp id fun ⟨b,o,e,hq,r⟩=>⟨b,o,e,hQ b hq,r⟩⟩
theorem q_l {w:World} {g:Nat} (x y:Value) (h:(w.cell? ⟨g,0,none⟩).isSome=true):((w.setCell ⟨g,0,none⟩ x).setCell ⟨g,1,none⟩ y).cell? ⟨g,0,none⟩=some x:=by
 rw [World.cell?_setCell_other]
 ·exact World.cell?_setCell_same' _ _ _ h
 ·intro h;simp at h
theorem q_m {w:World} {g:Nat} (x y:Value) (h:(w.cell? ⟨g,1,none⟩).isSome=true):((w.setCell ⟨g,0,none⟩ x).setCell ⟨g,1,none⟩ y).cell? ⟨g,1,none⟩=some y:=by
 refine World.cell?_setCell_same' _ _ _ ?_;rw [World.cell?_setCell_other]
 ·exact h
 ·intro h;simp at h
theorem b_S {w w':World} {a:Addr} {v:Value} (hb:Below w.heap.size w w') (h:w.cell? a=some v) (f:w.frozen? a=false):w'.frozen? a=false:=(hb.frozen (a_0 h)).trans f
end Go.Proofs.YtolabfafgbmdbaaGreatDoor
