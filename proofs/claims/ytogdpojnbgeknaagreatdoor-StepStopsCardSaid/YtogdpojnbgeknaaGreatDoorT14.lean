import Derived.Test.YtogdpojnbgeknaaGreatDoorT13
import Derived.Shelf.Abstract
import Derived.Test.YtogdpojnbgeknaaGreatDoorT0
set_option maxRecDepth 100000
set_option maxHeartbeats 16000000
namespace Go.Proofs.YtogdpojnbgeknaaGreatDoor
open Go.ChangeShapes Go.WideShapes Go.ChangeAt Go.RowKit Go.Shelf
attribute [local go_sem] Oper.semAt_some
theorem m_T {ps:List (Int×Int)} {x:Int} {len:Nat} (hl:ps.length=len) (h:∀ p∈l_b (d_J ps) len,p.2.1≠x):b_9 ps x=none:=by
 subst hl;refine k_N fun j hj=>?_
 have:=h _ (m_f (d_J ps) ps.length (ps.length - 1 - j) (by omega))
 simpa only [d_J,show ps.length - 1 - (ps.length - 1 - j)=j by omega] using this
theorem m_R {ps:List (Int×Int)} {x:Int} {len k:Nat} (hl:ps.length=len) (hk:k≤len) {ini:List (Int×(Int×Int))} {last:Int×(Int×Int)} (e:l_b (d_J ps) k=ini++[last])
  (h:∀ p∈ini,p.2.1≠x) (hx:last.2.1=x):b_9 ps x=some last.2.2:=by
 subst hl
 cases k with
 | zero=>simp [l_b] at e
 | succ j =>
  rw [j_O] at e;obtain ⟨rfl,e5⟩:=List.append_inj' e rfl;obtain rfl:d_J ps j=last:=by simpa using e5
  refine o_P (k:=ps.length - 1 - j) (by omega) hx fun i h1 h2=>?_
  have:=h _ (m_f (d_J ps) j (ps.length - 1 - i) (by omega))
  simpa only [d_J,show ps.length - 1 - (ps.length - 1 - i)=i by omega] using this
def h_M (ps:List (Int×Int)) (x:Int) (w:World) (e:Ending) (w':World):Prop:=e=.returned (.tuple #[.int .i64 (c_u ps x),.bool (c_t ps x)])∧Below w.heap.size w w'
def NwI (x:Int) (h:Nat) (w:World) (pre:List (Int×(Int×Int))) (W:World):Prop:=
 ((∀ p∈pre,p.2.1≠x)∧W.cell? ⟨h,0,none⟩=some (.int .i64 x)∧W.cell? ⟨h+1,0,none⟩=some (.int .i64 0)∧W.frozen? ⟨h+1,0,none⟩=false∧W.cell? ⟨h+1+1,0,none⟩=some (.bool false)∧W.frozen? ⟨h+1+1,0,none⟩=false)∧Below w.heap.size w W
def NwX (x:Int) (h:Nat) (w:World) (c:Code) (pre:List (Int×(Int×Int))) (W:World):Prop:=
 (c=.ret∧∃ ini last,pre=ini++[last]∧(∀ p∈ini,p.2.1≠x)∧last.2.1=x∧W.cell? ⟨h+1,0,none⟩=some (.int .i64 last.2.2)∧W.cell? ⟨h+1+1,0,none⟩=some (.bool true))∧Below w.heap.size w W
theorem o_S {x:Int} {h B:Nat} {w:World} (hB:w.heap.size≤B):OwnFrom B (NwI x h w):=
 OwnFrom.and (Own.from (fun _ _ _ _ hs hg hr=>⟨hs.1,cell_kept hs.2.1 hg hr,cell_kept hs.2.2.1 hg hr,(frozen_kept hs.2.2.1 hg hr).trans hs.2.2.2.1,cell_kept hs.2.2.2.2.1 hg hr,(frozen_kept hs.2.2.2.2.1 hg hr).trans hs.2.2.2.2.2⟩) _) (ownFrom_below (Nat.le_refl _) hB)
theorem s_H {x:Int} {h B:Nat} {w:World} (hB:w.heap.size≤B) (c:Code):OwnFrom B (NwX x h w c):=
 OwnFrom.and (Own.from (fun _ _ _ _ hs hg hr=>by obtain ⟨hc,ini,last,e1,e2,e3,e4,e5⟩:=hs;exact ⟨hc,ini,last,e1,e2,e3,cell_kept e4 hg hr,cell_kept e5 hg hr⟩) _) (ownFrom_below (Nat.le_refl _) hB)
theorem o_R {x:Int} {h:Nat} {w W:World} {pre:List (Int×(Int×Int))} (o:Obj) (i:NwI x h w pre W):NwI x h w pre (W.alloc o):=
 (o_S (Nat.le_refl _)).alloc o i
theorem n_A (F:Fence) (n:Nat) (h4:F.fn 148) (h6:F.fn 162) (h8:F.fn 168) (hro:F.round=none) (hn:3≤n) (a:Option Addr) (len cap:Nat) (ps:List (Int×Int)) (x:Int) (hreach:len≤9223372036854775807) (w:World) (hI:Pl w a len ps) :
  CallsIn F n Tryz.prog 148 #[.slice a len cap,.int .i64 x] w (h_M ps x w):=by
 have h1:1≤n:=by omega
 refine callsIn_of_wp_marks Tryz.func148 rfl h4 ?_ hro;simp only [Tryz.ntmps148,List.size_toArray,List.length_cons,List.length_nil,Nat.reduceAdd,Nat.reduceSub,Array.replicate_succ,Array.replicate_zero,List.push_toArray,List.append_toArray,List.nil_append,List.cons_append]
 gi_wp2_with (gi_at_call 162;refine (s_c F (n - 1) h6 hro _ _ _ _).mono ?_;rintro e w' ⟨rfl,rfl⟩)
 obtain ⟨W0,hW0⟩:=mn ((((w.alloc (Obj.cells #[.int .i64 x] 3)).alloc (Obj.cells #[.int .i64 0] 3)).alloc (Obj.cells #[.bool false] 4)).alloc (Obj.cells #[.slice a len cap] 55));have hs0:W0.heap.size=w.heap.size+4:=by rw [←hW0];simp
 have hB0:Below w.heap.size w W0:=by rw [←hW0];go_grown
 have cx:W0.cell? ⟨w.heap.size,0,none⟩=some (.int .i64 x):=by rw [←hW0];exact b_a _ (b_a _ (b_a _ (a_W _ _ _ rfl rfl)))
 have c1:W0.cell? ⟨w.heap.size+1,0,none⟩=some (.int .i64 0):=by rw [←hW0];exact b_a _ (b_a _ (a_W _ _ _ (by simp) rfl))
 have c2:W0.cell? ⟨w.heap.size+1+1,0,none⟩=some (.bool false):=by rw [←hW0];exact b_a _ (a_W _ _ _ (by simp) rfl)
 have c3:W0.cell? ⟨w.heap.size+1+1+1,0,none⟩=some (.slice a len cap):=by rw [←hW0];exact a_W _ _ _ (by simp) rfl
 have f1:W0.frozen? ⟨w.heap.size+1,0,none⟩=false:=by rw [←hW0,d_F _ (by simp),d_F _ (by simp)];exact c_m _ _ (by simp)
 have f2:W0.frozen? ⟨w.heap.size+1+1,0,none⟩=false:=by rw [←hW0,d_F _ (by simp)];exact c_m _ _ (by simp)
 rw [hW0];have hI0:Pl W0 a len ps:=plB hB0 hI
 have hbl:∀ p,a=some p→0 < len→p.block < w.heap.size:=by
  intro p hp hl;obtain ⟨b,o,e,R⟩:=hI.2.resolve_left (by omega);rw [hp] at e;cases e;exact b_c (R 0 (by rw [hI.1];exact hl)).1
 refine wpIn_rangeFunc_ownH hro h1 (gf:=168) (lb:=#[.pointer (some ⟨w.heap.size+1+1+1,0,none⟩)]) rfl h8 (enters_of Tryz.func168 (by kernel_rfl) rfl)
  (m_o F (n - 1) h8 hro (by omega) (w.heap.size+1+1+1) w.heap.size len cap a ps hreach W0 c3 hI0 hbl) t_O (u_j (by omega)) (Below.refl _ _) (fun _=>rfl)
  (NwI x w.heap.size w) (NwX x w.heap.size w) (o_S (by omega)) (s_H (by omega))
  ⟨⟨by simp,cx,c1,f1,c2,f2⟩,hB0⟩
  (fun y a' W=>∃ Bx,W.cell? ⟨Bx,0,none⟩=some (.int .i64 y.2.1)∧W.cell? ⟨Bx,1,none⟩=some (.int .i64 y.2.2)∧a'={ tmps:=#[.slice a len cap,.int .i64 x,undef,.pointer (some ⟨w.heap.size,0,none⟩),.pointer (some ⟨w.heap.size+1,0,none⟩),.pointer (some ⟨w.heap.size+1+1,0,none⟩),undef,.pointer (some ⟨Bx,0,none⟩),.slice a len cap,.func (.func 168) #[] #[.pointer (some ⟨w.heap.size+1+1+1,0,none⟩)],.int .i64 y.1,.agg #[.int .i64 y.2.1,.int .i64 y.2.2],undef,undef,undef,undef,undef,undef],defers:=[] })
  (fun y a'=>Own.from (fun _ A B row hs hg hr=>by obtain ⟨Bx,e1,e2,e3⟩:=hs;exact ⟨Bx,cell_kept e1 hg hr,cell_kept e2 hg hr,e3⟩) _) ?assign ?body ?done ?stop
 case assign =>
  rintro l pre ⟨y0,y1,y2⟩ W K hi hK;have hsz:=hi.2.size;have hl3:=b_c hi.1.2.2.2.2.1;simp only [r_J]
  gi_wp2
  refine hK _ _ ((KeepsOthers.alloc _ _).from _) ⟨(Below.refl _ W).alloc hsz _,fun v hv=>b_a _ hv⟩ (o_R _ hi) ⟨W.heap.size,by simp,by simp,rfl⟩
 case body =>
  rintro l pre ⟨y0,y1,y2⟩ a' W hl - hi ⟨Bx,e1,e2,rfl⟩ hlt;obtain ⟨⟨i1,i2,i3,i4,i5,i6⟩,i7⟩:=id hi;have ⟨Hi,H1⟩:=hh2 hi i1;dsimp only at e1 e2;clear hi i1
  by_cases hx:y1=x
  ·subst hx
   gi_wp2
   refine ⟨((KeepsOthers.setCell _ _ _).trans (KeepsOthers.setCell _ _ _)).from _,⟨rfl,pre,_,rfl,H1.out,rfl,?_,?_⟩,(i7.setCell (p:=⟨w.heap.size+1,0,none⟩) (by simp) _).setCell (p:=⟨w.heap.size+1+1,0,none⟩) (by simp;omega) _⟩
   ·rw [World.cell?_setCell_other]
    ·exact World.cell?_setCell_same' _ _ _ (by rw [i3];rfl)
    ·intro e;simp at e
   ·refine World.cell?_setCell_same' _ _ _ ?_;rw [World.cell?_setCell_other]
    ·rw [i5];rfl
    ·intro e;simp at e
  ·have q:(y1==x)=false:=by simpa using hx
   have HX:=Lib.hid hx;clear hx
   gi_wp2
   refine ⟨KeepsFrom.refl _ _,l_M _ _ _,⟨fun p hp=>(List.mem_append.1 hp).elim (H1.out p) (fun e=>by simp at e;subst e;exact HX.out),Hi.out.1.2⟩,Hi.out.2⟩
 case done =>
  rintro D ys W hD rfl ⟨⟨i1,i2,i3,i4,i5,i6⟩,i7⟩ hK;have HN:=Lib.hid (m_T (len:=len) hI.1 i1);have hl3:=b_c i5;clear i1
  gi_wp2
  have hK1:=(KeepsOthers.setCell W ⟨w.heap.size+1,0,none⟩ (.int .i64 0)).same D _ hK rfl;have hK':=(KeepsOthers.setCell _ ⟨w.heap.size+1+1,0,none⟩ (.bool false)).same D _ hK1 rfl;refine ⟨by simp,.inl ⟨_,_,rfl,run_takeDeferred hK',?_⟩⟩
  have g5:((W.setCell ⟨w.heap.size+1,0,none⟩ (.int .i64 0)).setCell ⟨w.heap.size+1+1,0,none⟩ (.bool false)).cell? ⟨w.heap.size+1+1,0,none⟩=some (.bool false):=by
   refine World.cell?_setCell_same' _ _ _ ?_;rw [World.cell?_setCell_other]
   ·rw [i5];rfl
   ·intro e;simp at e
  have g3:((W.setCell ⟨w.heap.size+1,0,none⟩ (.int .i64 0)).setCell ⟨w.heap.size+1+1,0,none⟩ (.bool false)).cell? ⟨w.heap.size+1,0,none⟩=some (.int .i64 0):=by
   rw [World.cell?_setCell_other]
   ·exact World.cell?_setCell_same' _ _ _ (by rw [i3];rfl)
   ·intro e;simp at e
  have j5:=cell_kept g5 (grownBy_putObj' _ D (.deferred none)) (fun r e=>by cases e;exact ⟨_,hK',rfl⟩);have j3:=cell_kept g3 (grownBy_putObj' _ D (.deferred none)) (fun r e=>by cases e;exact ⟨_,hK',rfl⟩);have hB1:Below w.heap.size w ((W.setCell ⟨w.heap.size+1,0,none⟩ (.int .i64 0)).setCell ⟨w.heap.size+1+1,0,none⟩ (.bool false)):=(i7.setCell (p:=⟨w.heap.size+1,0,none⟩) (by simp) _).setCell (p:=⟨w.heap.size+1+1,0,none⟩) (by simp;omega) _;refine ⟨.tuple #[.int .i64 0,.bool false],?_,⟨by rw [c_u,c_t,HN.out];rfl,hB1.trans (belowK_b (w:=w) (Nat.le_refl _) _ D _ _ (by omega) hK' rfl rfl)⟩⟩;simp [results,Tryz.f148,go_sem,j3,j5]
 case stop =>
  rintro D c pre W hD ⟨k,hk,rfl⟩ ⟨⟨rfl,ini,last,e1,e2,e3,j3,j5⟩,i7⟩ hK;have HN:=Lib.hid (m_R hI.1 hk e1 e2 e3);clear e1 e2 e3
  gi_wp2
  refine ⟨by simp,.inl ⟨_,_,rfl,run_takeDeferred hK,?_⟩⟩;have k5:=cell_kept j5 (grownBy_putObj' _ D (.deferred none)) (fun r e=>by cases e;exact ⟨_,hK,rfl⟩);have k3:=cell_kept j3 (grownBy_putObj' _ D (.deferred none)) (fun r e=>by cases e;exact ⟨_,hK,rfl⟩);refine ⟨.tuple #[.int .i64 last.2.2,.bool true],?_,⟨by rw [c_u,c_t,HN.out];rfl,i7.trans (belowK_b (w:=w) (Nat.le_refl _) W D _ _ (by omega) hK rfl rfl)⟩⟩;simp [results,Tryz.f148,go_sem,k3,k5]
theorem m_k (a:Option Addr) (len cap:Nat) (ps:List (Int×Int)) (x:Int) (w:World) (hI:Pl w a len ps) (hreach:len≤9223372036854775807) :
  Calls Tryz.prog 148 #[.slice a len cap,.int .i64 x] w (h_M ps x w):=
 callsIn_wide.1 (n_A Fence.wide 3 trivial trivial trivial rfl (Nat.le_refl _) a len cap ps x hreach w hI)
end Go.Proofs.YtogdpojnbgeknaaGreatDoor
namespace Go.Proofs.YtogdpojnbgeknaaGreatDoor
open Go.ChangeShapes Go.WideShapes Go.ChangeAt Go.RowKit
theorem i_O (a a' q:Option Addr) (n c n' c' l d:Nat) (ws ts:List Int) (D:Int) (bs:List (List (Int×Int))) (w:World) (S1:Sl w a n ws) (S2:Sl w a' n' ts) (S:Bl w q l bs) :
  Calls Tryz.prog 36 #[.agg #[.slice a n c,.slice a' n' c',.int .i64 D,.slice q l d]] w (b_l (d_O ws ts D bs) w):=by
 obtain ⟨t,ht⟩:=mn (d_O ws ts D bs);rw [ht];have HT:=Lib.hid ht;clear ht
 go_enter Tryz.func36,Tryz.ntmps36
 go_wp2_with fail
 refine (e_Z a a' q n c n' c' l d ws ts D bs _ (slA _ S1) (slA _ S2) (blA _ S)).mono ?_;rintro e w1 ⟨rfl,hb⟩;rw [HT.out];have HB:=N100;clear hb
 go_wp2
 go_ret
 exact ⟨rfl,HB.out⟩
theorem c_r {w w':World} {a:Addr} {v:Value} (hb:Below w.heap.size w w') (h:w.cell? a=some v) (f:w.frozen? a=false):w'.cell? a=some v∧w'.frozen? a=false:=⟨a_u hb h,b_8 hb h f⟩
theorem g_i {F g:Nat} {Q:Nat→Prop} {ws ts:List Int} {D:Int} {bs:List (List (Int×Int))} {x:Int} {w W:World} {p p' q:Option Addr} {n n' l d d' e:Nat} {y0 y1 y2 y3:Value}
  (hg:g < F) (hw:w.heap.size≤g) (hQ:∀ b,Q b→F≤b) (u1:SlP Q W p n ws) (u2:SlP Q W p' n' ts) (u3:BlP (fun b=>F≤b) W q l bs) (hb:Below w.heap.size w W) :
  e_B ws ts D bs x w (.returned (.tuple #[.agg #[.slice p n d,.slice p' n' d',.int .i64 D,.slice q l e],.int .i64 x])) ((((W.setCell ⟨g,0,none⟩ y0).setCell ⟨g,1,none⟩ y1).setCell ⟨g,2,none⟩ y2).setCell ⟨g,3,none⟩ y3):=by
 have hk:∀ (b o:Nat) (v:Value),F≤b→W.cell? ⟨b,o,none⟩=some v→((((W.setCell ⟨g,0,none⟩ y0).setCell ⟨g,1,none⟩ y1).setCell ⟨g,2,none⟩ y2).setCell ⟨g,3,none⟩ y3).cell? ⟨b,o,none⟩=some v:=by
  intro b o v hq hv;have ne:∀ j,(⟨g,j,none⟩:Addr)≠⟨b,o,none⟩:=fun j e=>by have h:=congrArg Addr.block e;dsimp only at h;omega
  rw [World.cell?_setCell_other _ _ _ _ (ne _),World.cell?_setCell_other _ _ _ _ (ne _),World.cell?_setCell_other _ _ _ _ (ne _),World.cell?_setCell_other _ _ _ _ (ne _)];exact hv
 refine ⟨_,_,_,_,_,_,_,_,_,rfl,?_,?_,?_,a_U hb hw _ _ _ _⟩
 ·exact r_b (fun b hb=>by omega) (a_r hk (a_n hQ u1))
 ·exact r_b (fun b hb=>by omega) (a_r hk (a_n hQ u2))
 ·exact a_H (fun b hb=>by omega) (a_G hk u3)
theorem j_g (w:World) (x y z u:Value):(Instr.field 109 (.agg #[x,y,z,u]) 0).run Tryz.prog w=.ok (.agg #[x,y,z,u]) w:=by
 simp [go_sem,Instr.field,asAgg]
def t_n (w1:World) (a a':Option Addr) (n c n' c':Nat) (D:Int) (k:Nat) (s8:Value) (wx:World):Prop:=
 ∃ g b,s8=.pointer (some ⟨g,0,none⟩)∧wx.cell? ⟨g,0,none⟩=some (.slice a n c)∧wx.cell? ⟨g,1,none⟩=some (.slice a' n' c')∧wx.cell? ⟨g,2,none⟩=some (.int .i64 D)∧wx.cell? ⟨g,3,none⟩=some (.slice (some ⟨b,0,none⟩) k k)∧Bl wx (some ⟨b,0,none⟩) k (List.replicate k [])∧Below w1.heap.size w1 wx
theorem l_y {w:World} {b k:Nat} (h:w.heap[b]?=some (.cells (Nb k) 55)):Bl w (some ⟨b,0,none⟩) k (List.replicate k []):=by
 refine ⟨by simp,.inr ⟨b,0,rfl,fun i hi=>?_⟩⟩;rw [List.length_replicate] at hi;have e:(List.replicate k ([]:List (Int×Int))).getD i []=[]:=by simp [List.getD_eq_getElem?_getD,hi]
 rw [e];refine ⟨none,0,?_,d_7,r_Q _⟩;rw [Nat.zero_add];simp only [World.cell?,h]
 simpa using r_A k i hi
theorem n_h (a a':Option Addr) (n c n' c':Nat) (ws ts:List Int) (k D:Int) (w:World) (S1:Sl w a n ws) (S2:Sl w a' n' ts) :
  Calls Tryz.prog 31 #[.agg #[.slice a n c,.slice a' n' c'],.int .i64 k,.int .i64 D] w (e_B (o_M ws ts k D) (o_L ws ts k D) (m_P ws ts k D) (o_K ws ts k D) (e_y ws ts k D) w):=by
 cases hm:d_g ws ts with
 | false =>
  have he:e_y ws ts k D=1:=by rw [e_y,if_neg (by rw [hm];decide)]
  obtain ⟨e1,e2,e3,e4⟩:=o_N (ws:=ws) (ts:=ts) (n:=k) (D:=D) (by rw [he];decide);rw [e1,e2,e3,e4,he];have HM:=Lib.hid hm;clear e1 e2 e3 e4 he hm
  go_enter Tryz.func31,Tryz.ntmps31
  go_wp2_with fail
  refine (c_k a a' n c n' c' ws ts _ (slA _ (slA _ S1)) (slA _ (slA _ S2))).mono ?_;rintro e w1 ⟨rfl,hb⟩;rw [HM.out];have hb1:=N11;have r0:=N68;have r1:=N69;have r2:=N138;have r3:=N132;have ff:=N65;have f0:=ff 0;have f1:=ff 1;have f2:=ff 2;have f3:=ff 3;have HR:=N101;have HB:=Lib.hid hb1;clear hb hb1 ff;exact J33
 | true =>
  cases hs:c_0 k D with
  | false =>
   have he:e_y ws ts k D=2:=by rw [e_y,if_pos hm,if_neg (by rw [hs];decide)]
   obtain ⟨e1,e2,e3,e4⟩:=o_N (ws:=ws) (ts:=ts) (n:=k) (D:=D) (by rw [he];decide);rw [e1,e2,e3,e4,he];have HM:=Lib.hid hm;have hs':¬ (1≤k∧k≤8∧0≤D∧D≤8):=by simpa [c_0] using hs
   clear e1 e2 e3 e4 he hm hs
   go_enter Tryz.func31,Tryz.ntmps31
   go_wp2_with fail
   refine (c_k a a' n c n' c' ws ts _ (slA _ (slA _ S1)) (slA _ (slA _ S2))).mono ?_;rintro e w1 ⟨rfl,hb⟩;rw [HM.out];have hb1:=N11;have r0:=N68;have r1:=N69;have r2:=N138;have r3:=N132;have ff:=N65;have f0:=ff 0;have f1:=ff 1;have f2:=ff 2;have f3:=ff 3;have HR:=N101;have HB:=Lib.hid hb1;clear hb hb1 ff
   by_cases d0:k < 1
   ·clear hs';exact J33
   ·by_cases d1:8 < k
    ·clear hs';exact J33
    ·by_cases d2:D < 0
     ·clear hs';exact J33
     ·have d3:8 < D:=by omega
      clear hs';exact J33
  | true =>
   have hs':1≤k∧k≤8∧0≤D∧D≤8:=by simpa [c_0] using hs
   obtain ⟨s1,s2,s3,s4⟩:=hs';obtain ⟨j,rfl⟩:=N245;have hj:j≤8:=by omega
   obtain ⟨e0,e1,e2,e3,e4⟩:=o_O hm hs;rw [e0,e1,e2,e3,e4,Int.toNat_natCast];have HM:=Lib.hid hm;have HV:=Lib.hid (i_y hm hs);have HL:=Lib.hid (show (List.replicate j ([]:List (Int×Int))).length=j by simp);clear e0 e1 e2 e3 e4 hm hs;have t0:decide ((j:Int) < 1)=false:=by simp;omega
   have t1:decide (8 < (j:Int))=false:=by simp;omega
   go_enter Tryz.func31,Tryz.ntmps31
   go_wp2_with fail
   refine (c_k a a' n c n' c' ws ts _ (slA _ (slA _ S1)) (slA _ (slA _ S2))).mono ?_;rintro e w1 ⟨rfl,hb⟩;rw [HM.out];have hb1:=N11;have k0:=N197;have k1:=N191;have r0:=N68;have r1:=N69;have r2:=N138;have r3:=N132;have ff:=N65;have f0:=ff 0;have f1:=ff 1;have f2:=ff 2;have f3:=ff 3;have T1:=slB hb1 S1;have T2:=slB hb1 S2;have HB:=Lib.hid hb1;clear hb hb1 ff S1 S2
   go_upto_region 5 with fail
   go_cut [8] (fun s8 wx=>t_n w1 a a' n c n' c' D j s8 wx)
   case first =>
    have hmk:=j_m j (by omega);have xa0:=b_a (Obj.cells #[.slice none 0 0,.slice none 0 0,.int .i64 0,.slice none 0 0] 109) k0;have xb0:=b_a (Obj.cells (Nb j) 55) k0;have xc0:=b_a (Obj.cells (Nb j) 55) (b_a (Obj.cells #[.slice none 0 0,.slice none 0 0,.int .i64 0,.slice none 0 0] 109) k0);have xd0:=b_a (Obj.cells #[.slice none 0 0,.slice none 0 0,.int .i64 0,.slice none 0 0] 109) (b_a (Obj.cells (Nb j) 55) k0);have xa1:=b_a (Obj.cells #[.slice none 0 0,.slice none 0 0,.int .i64 0,.slice none 0 0] 109) k1;have xb1:=b_a (Obj.cells (Nb j) 55) k1;have xc1:=b_a (Obj.cells (Nb j) 55) (b_a (Obj.cells #[.slice none 0 0,.slice none 0 0,.int .i64 0,.slice none 0 0] 109) k1);have xd1:=b_a (Obj.cells #[.slice none 0 0,.slice none 0 0,.int .i64 0,.slice none 0 0] 109) (b_a (Obj.cells (Nb j) 55) k1)
    go_region
    all_goals
     go_wp2_with fail
     go_meet
     first
      | exact ⟨w1.heap.size+1,w1.heap.size,rfl,a_W (w:=w1.alloc (Obj.cells (Nb j) 55)) _ _ _ (by simp) rfl,a_W (w:=w1.alloc (Obj.cells (Nb j) 55)) _ _ _ (by simp) rfl,a_W (w:=w1.alloc (Obj.cells (Nb j) 55)) _ _ _ (by simp) rfl,a_W (w:=w1.alloc (Obj.cells (Nb j) 55)) _ _ _ (by simp) rfl,l_y ((b_q _ _ _ (by simp)).trans (a_4 w1 _ _ rfl)),by go_grown⟩
      | exact ⟨w1.heap.size,w1.heap.size+1,rfl,b_a (Obj.cells (Nb j) 55) (a_W (w:=w1) _ _ _ rfl rfl),b_a (Obj.cells (Nb j) 55) (a_W (w:=w1) _ _ _ rfl rfl),b_a (Obj.cells (Nb j) 55) (a_W (w:=w1) _ _ _ rfl rfl),b_a (Obj.cells (Nb j) 55) (a_W (w:=w1) _ _ _ rfl rfl),l_y (a_4 _ _ _ (by simp)),by go_grown⟩
   case rest =>
    obtain ⟨g,b,rfl,c0,c1,c2,c3,hbl,hbx⟩:=hcut;replace r0:=c_r hbx r0 f0;replace r1:=c_r hbx r1 f1;replace r2:=c_r hbx r2 f2;replace r3:=c_r hbx r3 f3;clear f0 f1 f2 f3 k0 k1;replace T1:=slB hbx T1;replace T2:=slB hbx T2;have HBX:=Lib.hid (a_b HB.out hbx);have HR:=Lib.hid (And.intro r0 (And.intro r1 (And.intro r2 r3)));clear hbx r0 r1 r2 r3 HM HB
    go_wp2_with fail
    refine (e_j a a' (some ⟨b,0,none⟩) n c n' c' j j ws ts D (List.replicate j []) _ T1 T2 hbl HV.out).mono ?_;rintro e w3 ⟨p,m,d1,p',m',d2,y,l,rfl,u1,u2,O,hb3⟩;have r0:=c_r hb3 HR.out.1.1 HR.out.1.2;have r1:=c_r hb3 HR.out.2.1.1 HR.out.2.1.2;have r2:=c_r hb3 HR.out.2.2.1.1 HR.out.2.2.1.2;have r3:=c_r hb3 HR.out.2.2.2.1 HR.out.2.2.2.2;have hlt:w.heap.size+1 < wc.heap.size:=b_c HR.out.1.1;have HB3:=Lib.hid (a_b HBX.out hb3);have ⟨U1,U2⟩:=hh2 u1 u2;have HO:=Lib.hid (i_n O);have H4:=Lib.hid (s_2 (w:=w3) (g:=w.heap.size+1) (.slice p m d1) (.slice p' m' d2) (.int .i64 D) (.slice (some ⟨y,0,none⟩) l l) (by rw [r0.1];rfl) (by rw [r1.1];rfl) (by rw [r2.1];rfl) (by rw [r3.1];rfl));obtain ⟨r0,f0⟩:=r0;obtain ⟨r1,f1⟩:=r1;obtain ⟨r2,f2⟩:=r2;obtain ⟨r3,f3⟩:=r3;clear hb3 u1 u2 O HBX HR T1 T2 hbl c0 c1 c2 c3;have hfd:=j_g w3 (.slice p m d1) (.slice p' m' d2) (.int .i64 D) (.slice (some ⟨y,0,none⟩) l l)
    go_wp2
    refine a_l ⟨w.heap.size+1,0,none⟩ rfl rfl rfl (a_7 _ _ _ _ _ _ H4.out.1 H4.out.2.1 H4.out.2.2.1 H4.out.2.2.2) ?_;exact g_i (g:=w.heap.size+1) hlt (by omega) (fun _ h=>h.1) U1.out U2.out HO.out HB3.out
def g_C (v x:Int) (w:World) (e:Ending) (w':World):Prop:=e=.returned (.tuple #[.int .i64 v,.int .i64 x])∧Below w.heap.size w w'
theorem c_T {v x z y:Int} {w w':World} (h1:v=z) (h2:x=y) (hb:Below w.heap.size w w'):g_C v x w (.returned (.tuple #[.int .i64 z,.int .i64 y])) w':=by subst h1;subst h2;exact ⟨rfl,hb⟩
theorem l_a (a a' q:Option Addr) (n c n' c' l d:Nat) (ws ts:List Int) (D:Int) (bs:List (List (Int×Int))) (th x:Int) (w:World) (S1:Sl w a n ws) (S2:Sl w a' n' ts) (S:Bl w q l bs) (hx:(Lit.int .i64 x).wf=true) :
  Calls Tryz.prog 120 #[.agg #[.slice a n c,.slice a' n' c',.int .i64 D,.slice q l d],.int .i64 th,.int .i64 x] w (g_C (f_f ws ts D bs th x) (c_5 ws ts D bs th x) w):=by
 have HX:=Lib.hid hx;have Hl:=Lib.hid S.1;clear hx
 cases hh:j_i ws ts D bs th with
 | false =>
  have HE:=Lib.hid (show c_5 ws ts D bs th x=1 by rw [c_5,if_neg (by rw [hh];decide)]);have HV:=Lib.hid (show f_f ws ts D bs th x=0 by rw [f_f,HE.out,if_neg (by decide)]);rw [HE.out,HV.out];have HH:=Lib.hid (show (d_O ws ts D bs&&thB bs th)=false from hh);clear hh HE HV
  go_enter Tryz.func120,Tryz.ntmps120
  go_wp2_with fail
  refine (e_d a a' q n c n' c' l d ws ts D th bs _ (slA _ (slA _ S1)) (slA _ (slA _ S2)) (blA _ (blA _ S))).mono ?_;rintro e w1 ⟨rfl,hb⟩;rw [HH.out];have HB:=N100;clear hb
  go_wp2
  go_ret2
  exact c_T rfl rfl HB.out
 | true =>
  obtain ⟨hm,h0,h1⟩:=d_e hh;obtain ⟨j,rfl⟩:=N120;have hjl:j < l:=by rw [←Hl.out];omega
  have i1:(0:Int)≤j:=by omega
  have i2:(j:Int) < l:=by omega
  have HH:=Lib.hid (show (d_O ws ts D bs&&thB bs j)=true from hh);have HE:=Lib.hid (show c_5 ws ts D bs j x=a_I ws ts x by rw [c_5,if_pos hh]);have HV:=N122;have H8:=N179;have HS8:=Lib.hid H8;clear hh hm h0 h1 H8
  go_enter Tryz.func120,Tryz.ntmps120
  go_wp2_with fail
  refine (e_d a a' q n c n' c' l d ws ts D j bs _ (slA _ (slA _ S1)) (slA _ (slA _ S2)) (blA _ (blA _ S))).mono ?_;rintro e w1 ⟨rfl,hb⟩;rw [HH.out];have hb1:=N11;have k0:w1.cell? ⟨w.heap.size+1,0,none⟩=some (.slice a n c):=a_u hb (by simp);have k1:w1.cell? ⟨w.heap.size+1,1,none⟩=some (.slice a' n' c'):=a_u hb (by simp);have k3:w1.cell? ⟨w.heap.size+1,3,none⟩=some (.slice q l d):=a_u hb (by simp);have T1:=slB hb1 S1;have T2:=slB hb1 S2;have T:=blB hb1 S;have HB:=Lib.hid hb1;clear hb hb1 S1 S2 S
  go_wp2_with fail
  refine (g_D a a' n c n' c' ws ts x _ T1 T2 HX.out).mono ?_;rintro e w2 ⟨rfl,hb⟩;obtain ⟨ev,hev⟩:=mn (a_I ws ts x);obtain ⟨lv,hlv⟩:=mn (b_K ws ts x);have ⟨HEV,HLV⟩:=hh2 hev hlv;rw [hev,hlv];have HB2:=Lib.hid (a_b HB.out hb)
  by_cases he:ev=0
  ·subst he;replace k3:=a_u hb k3;replace T:=blB hb T;obtain ⟨b,o,y,yc,rfl,g0,hcap,hp⟩:=k_a T hjl;obtain ⟨ps,hps⟩:=mn (bs.getD j []);have h8:=HS8.out;rw [hps] at g0 hp hcap h8;have HPS:=Lib.hid hps;obtain ⟨m,hm⟩:=mn (ps.length);rw [hm] at g0 hp hcap h8;clear hb hlv hev hps hm hcap k0 k1 T1 T2 T HB HS8
   go_wp2_with fail
   refine (m_k y m yc ps x _ hp (by omega)).mono ?_;rintro e w3 ⟨rfl,hb⟩;have HB3:=Lib.hid (a_b HB2.out hb);exact J45
  ·have q1:=N127;have HEN:=Lib.hid he;clear hb hlv hev he k0 k1 k3 T1 T2 T HB HS8
   go_wp2
   go_ret2
   exact c_T (by rw [HV.out,HEV.out,if_neg HEN.out]) (by rw [HE.out,HEV.out]) HB2.out
end Go.Proofs.YtogdpojnbgeknaaGreatDoor
