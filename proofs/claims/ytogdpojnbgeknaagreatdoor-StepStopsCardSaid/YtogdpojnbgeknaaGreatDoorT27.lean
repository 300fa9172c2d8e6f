import Derived.Test.YtogdpojnbgeknaaGreatDoorT16
import Derived.Test.YtogdpojnbgeknaaGreatDoorT3
import Derived.Test.YtogdpojnbgeknaaGreatDoorT0
namespace Go.Proofs.YtogdpojnbgeknaaGreatDoor
open Go.ChangeShapes Go.WideShapes Go.ChangeAt Go.RowKit
attribute [local go_sem] e_7
attribute [local go_sem ↓] Go.wp_at_zero Go.wp_at_succ
def j_6 (w:World) (g:Nat) (x y z:Value):Prop:=(w.cell? ⟨g,0,none⟩=some x∧w.cell? ⟨g,1,none⟩=some y∧w.cell? ⟨g,2,none⟩=some z)∧w.frozen? ⟨g,0,none⟩=false∧w.frozen? ⟨g,1,none⟩=false∧w.frozen? ⟨g,2,none⟩=false
theorem r_l {w:World} {x y z:Value} {t:TypeId} (g:Nat) (hg:g=w.heap.size):j_6 (w.alloc (.cells #[x,y,z] t)) g x y z:=
 ⟨⟨a_W _ _ _ hg rfl,a_W _ _ _ hg rfl,a_W _ _ _ hg rfl⟩,c_m _ _ hg,c_m _ _ hg,c_m _ _ hg⟩
theorem p_w {w w':World} {g:Nat} {x y z:Value} (hb:Below w.heap.size w w') (h:j_6 w g x y z):j_6 w' g x y z:=by
 obtain ⟨⟨a,b,c⟩,e,f,i⟩:=h;exact ⟨⟨a_u hb a,a_u hb b,a_u hb c⟩,b_8 hb a e,b_8 hb b f,b_8 hb c i⟩
theorem t_W {w:World} {g:Nat} {x y z:Value} (o:Obj) (h:j_6 w g x y z):j_6 (w.alloc o) g x y z:=p_w ((Below.refl _ _).alloc (Nat.le_refl _) _) h
theorem s_8 {w:World} {g:Nat} {x y z:Value} (h:j_6 w g x y z):g < w.heap.size:=b_c h.1.1
theorem f_b {w:World} {g g' o:Nat} {x y z:Value} (h:j_6 w g x y z) (hne:g'≠g) (v:Value):j_6 (w.setCell ⟨g',o,none⟩ v) g x y z:=by
 obtain ⟨⟨a,b,c⟩,e,f,i⟩:=h;have ne:=N205;refine ⟨⟨?_,?_,?_⟩,?_,?_,?_⟩
 ·rw [World.cell?_setCell_other _ _ _ _ (ne _)];exact a
 ·rw [World.cell?_setCell_other _ _ _ _ (ne _)];exact b
 ·rw [World.cell?_setCell_other _ _ _ _ (ne _)];exact c
 all_goals (rw [World.frozen?_setCell];assumption)
theorem r_m {w:World} {g:Nat} {x y z:Value} (h:j_6 w g x y z) (x' y' z':Value):j_6 (((w.setCell ⟨g,0,none⟩ x').setCell ⟨g,1,none⟩ y').setCell ⟨g,2,none⟩ z') g x' y' z':=by
 obtain ⟨⟨a,b,c⟩,e,f,i⟩:=h;have ne:=N192;refine ⟨⟨?_,?_,?_⟩,?_,?_,?_⟩
 ·rw [World.cell?_setCell_other _ _ _ _ (ne _ _ (by decide)),World.cell?_setCell_other _ _ _ _ (ne _ _ (by decide))];exact World.cell?_setCell_same' _ _ _ (by rw [a];rfl)
 ·rw [World.cell?_setCell_other _ _ _ _ (ne _ _ (by decide))];exact World.cell?_setCell_same' _ _ _ (by rw [World.cell?_setCell_other _ _ _ _ (ne _ _ (by decide)),b];rfl)
 ·exact World.cell?_setCell_same' _ _ _ (by rw [World.cell?_setCell_other _ _ _ _ (ne _ _ (by decide)),World.cell?_setCell_other _ _ _ _ (ne _ _ (by decide)),c];rfl)
 all_goals (simp only [World.frozen?_setCell];assumption)
theorem m_p {F g:Nat} {w w':World} (h:Below F w w') (hg:F≤g) (x y z:Value):Below F w (((w'.setCell ⟨g,0,none⟩ x).setCell ⟨g,1,none⟩ y).setCell ⟨g,2,none⟩ z):=
 ((h.setCell (p:=⟨g,0,none⟩) hg x).setCell (p:=⟨g,1,none⟩) hg y).setCell (p:=⟨g,2,none⟩) hg z
theorem p_x {w:World} {g g':Nat} {x y z a b c d:Value} (h:j_6 w g x y z) (hne:g'≠g):j_6 ((((w.setCell ⟨g',0,none⟩ a).setCell ⟨g',1,none⟩ b).setCell ⟨g',2,none⟩ c).setCell ⟨g',3,none⟩ d) g x y z:=
 f_b (f_b (f_b (f_b h hne _) hne _) hne _) hne _
theorem n_i {w:World} {g g':Nat} {x y z u a b c:Value} (h:d_6 w g x y z u) (hne:g'≠g):d_6 (((w.setCell ⟨g',0,none⟩ a).setCell ⟨g',1,none⟩ b).setCell ⟨g',2,none⟩ c) g x y z u:=by
 obtain ⟨⟨a,b,c,d⟩,e,f,i,j⟩:=h;have ne:∀ k m,(⟨g',m,none⟩:Addr)≠⟨g,k,none⟩:=fun k m e=>hne (congrArg Addr.block e)
 refine ⟨⟨?_,?_,?_,?_⟩,?_,?_,?_,?_⟩
 ·rw [World.cell?_setCell_other _ _ _ _ (ne _ _),World.cell?_setCell_other _ _ _ _ (ne _ _),World.cell?_setCell_other _ _ _ _ (ne _ _)];exact a
 ·rw [World.cell?_setCell_other _ _ _ _ (ne _ _),World.cell?_setCell_other _ _ _ _ (ne _ _),World.cell?_setCell_other _ _ _ _ (ne _ _)];exact b
 ·rw [World.cell?_setCell_other _ _ _ _ (ne _ _),World.cell?_setCell_other _ _ _ _ (ne _ _),World.cell?_setCell_other _ _ _ _ (ne _ _)];exact c
 ·rw [World.cell?_setCell_other _ _ _ _ (ne _ _),World.cell?_setCell_other _ _ _ _ (ne _ _),World.cell?_setCell_other _ _ _ _ (ne _ _)];exact d
 all_goals (simp only [World.frozen?_setCell];assumption)
inductive LockInv (x y z u:Value) (a0:Act) (w0:World) (listed:Array Bool) (act':Act) (w':World):Prop
 | mk (p20 p21 p22 p15 p16:Value) (gx:Nat) (go:Nat) (x0:Value) (x1:Value) (x2:Value) (x3:Value) (y0:Value) (y1:Value) (y2:Value) (ea:act'=(((((a0.put (some 20) p20).put (some 21) p21).put (some 22) p22).put (some 15) p15).put (some 16) p16)) (hb:Below w0.heap.size w0 w') (hf0:Up listed 0→p20=.agg #[x,y,z,u]) (hf1:Up listed 1→p21=.agg #[x,y,z,u]) (hf2:Up listed 2→p22=.agg #[.func (.func 169) #[] #[],.func (.func 170) #[] #[],.func (.func 171) #[] #[]]) (hX:Up listed 3→p15=.pointer (some ⟨gx,0,none⟩)∧w0.heap.size≤gx∧d_6 w' gx x0 x1 x2 x3) (hO:Up listed 4→p16=.pointer (some ⟨go,0,none⟩)∧w0.heap.size≤go∧j_6 w' go y0 y1 y2∧(Up listed 3→gx≠go)) (hSX:Up listed 5→Up listed 3∧x0=x∧x1=y∧x2=z∧x3=u) (hSO:Up listed 6→Up listed 4∧y0=(.func (.func 169) #[] #[])∧y1=(.func (.func 170) #[] #[])∧y2=(.func (.func 171) #[] #[])):LockInv x y z u a0 w0 listed act' w'
def n_w (W:World) (x y z u:Value) (s15 s16:Value) (wx:World):Prop:=
 ∃ gx go,s15=.pointer (some ⟨gx,0,none⟩)∧s16=.pointer (some ⟨go,0,none⟩)∧d_6 wx gx x y z u∧j_6 wx go (.func (.func 169) #[] #[]) (.func (.func 170) #[] #[]) (.func (.func 171) #[] #[])∧W.heap.size≤gx∧W.heap.size≤go∧Below W.heap.size W wx
theorem c_g {Q:Nat→Prop} {w:World} {a:Option Addr} {n:Nat} {zs:List Int} (h:SlP Q w a n zs):SlP (fun b=>Q b∧b < w.heap.size) w a n zs:=by
 obtain ⟨h1,h2⟩:=h
 by_cases h0:n=0
 ·exact ⟨h1,.inl h0⟩
 ·obtain ⟨b,o,e,hq,r⟩:=h2.resolve_left h0;exact ⟨h1,.inr ⟨b,o,e,⟨hq,b_c (r 0 (by omega))⟩,r⟩⟩
theorem s_N {Q:Nat→Prop} {w:World} {a:Option Addr} {n:Nat} {zs:List (Int×Int)} (h:PlQ Q w a n zs):PlQ (fun b=>Q b∧b < w.heap.size) w a n zs:=by
 obtain ⟨h1,h2⟩:=h
 by_cases h0:n=0
 ·exact ⟨h1,.inl h0⟩
 ·obtain ⟨b,o,e,hq,r⟩:=h2.resolve_left h0;exact ⟨h1,.inr ⟨b,o,e,⟨hq,b_c (r 0 (by omega)).1⟩,r⟩⟩
theorem f_p {Q:Nat→Prop} {w:World} {a:Option Addr} {n:Nat} {bs:List (List (Int×Int))} (h:BlP Q w a n bs):BlP (fun b=>Q b∧b < w.heap.size) w a n bs:=by
 obtain ⟨h1,h2⟩:=h
 by_cases h0:n=0
 ·exact ⟨h1,.inl h0⟩
 ·obtain ⟨b,o,e,hq,r⟩:=h2.resolve_left h0;refine ⟨h1,.inr ⟨b,o,e,⟨hq,?_⟩,fun i hi=>?_⟩⟩
  ·obtain ⟨q,c,k,_⟩:=r 0 (by omega);exact b_c k
  ·obtain ⟨q,c,k,k2,k3⟩:=r i hi;exact ⟨q,c,k,k2,s_N k3⟩
theorem u_B {Q:Nat→Prop} {w:World} {a:Option Addr} {n:Nat} {bs:List (List (Int×Int))} (o:Obj) (h:BlP Q w a n bs):BlP Q (w.alloc o) a n bs:=a_G (fun _ _ _ _ hv=>b_a o hv) h
theorem e_E {w:World} {g b o:Nat} {v x y z u:Value} (h:w.cell? ⟨b,o,none⟩=some v) (hne:b≠g):((((w.setCell ⟨g,0,none⟩ x).setCell ⟨g,1,none⟩ y).setCell ⟨g,2,none⟩ z).setCell ⟨g,3,none⟩ u).cell? ⟨b,o,none⟩=some v:=by
 have ne:=N199;rw [World.cell?_setCell_other _ _ _ _ (ne _),World.cell?_setCell_other _ _ _ _ (ne _),World.cell?_setCell_other _ _ _ _ (ne _),World.cell?_setCell_other _ _ _ _ (ne _)];exact h
theorem g_M {F v:Nat} {U:Prop} (hu:U) {w:World} {a:Option Addr} {n:Nat} {zs:List Int} {x y z u:Value} (h:SlP (fun b=>F≤b∧(U→b≠v)) w a n zs):SlP (fun b=>F≤b∧(U→b≠v)) ((((w.setCell ⟨v,0,none⟩ x).setCell ⟨v,1,none⟩ y).setCell ⟨v,2,none⟩ z).setCell ⟨v,3,none⟩ u) a n zs:=
 a_r (fun _ _ _ hq hv=>e_E hv (hq.2 hu)) h
theorem p_9 {F v:Nat} {U:Prop} (hu:U) {w:World} {a:Option Addr} {n:Nat} {bs:List (List (Int×Int))} {x y z u:Value} (h:BlP (fun b=>F≤b∧(U→b≠v)) w a n bs):BlP (fun b=>F≤b∧(U→b≠v)) ((((w.setCell ⟨v,0,none⟩ x).setCell ⟨v,1,none⟩ y).setCell ⟨v,2,none⟩ z).setCell ⟨v,3,none⟩ u) a n bs:=
 a_G (fun _ _ _ hq hv=>e_E hv (hq.2 hu)) h
inductive LockInv9 (a a' q:Option Addr) (n c n' c' l d:Nat) (ws ts us:List Int) (D:Int) (bs:List (List (Int×Int))) (j go F:Nat) (x y z lv nv:Int) (a0:Act) (w0:World) (listed:Array Bool) (act':Act) (w':World):Prop
 | mk (p58 p59 p60 p61 p62 p63 p64 p65 p66 p67 p68 p69 p70 p57 p71 p72 p19 p18:Value) (p:Option Addr) (m:Nat) (e1:Nat) (p':Option Addr) (m':Nat) (e2:Nat) (g:Nat) (l2:Nat) (p3:Option Addr) (m3:Nat) (e3:Nat) (p4:Option Addr) (m4:Nat) (e4:Nat) (v:Nat) (x0:Value) (x1:Value) (x2:Value) (x3:Value) (ea:act'=((((((((((((((((((a0.put (some 58) p58).put (some 59) p59).put (some 60) p60).put (some 61) p61).put (some 62) p62).put (some 63) p63).put (some 64) p64).put (some 65) p65).put (some 66) p66).put (some 67) p67).put (some 68) p68).put (some 69) p69).put (some 70) p70).put (some 57) p57).put (some 71) p71).put (some 72) p72).put (some 19) p19).put (some 18) p18)) (hb:Below w0.heap.size w0 w') (hf0:Up listed 0→p58=.agg #[.slice a n c,.slice a' n' c',.int .i64 D,.slice q l d]) (hC:Up listed 1→p59=.agg #[.slice p m e1,.slice p' m' e2,.int .i64 D,.slice (some ⟨g,0,none⟩) l2 l2]∧SlP (fun b=>w0.heap.size≤b∧(Up listed 16→b≠v)) w' p m ws∧SlP (fun b=>w0.heap.size≤b∧(Up listed 16→b≠v)) w' p' m' ts∧BlP (fun b=>w0.heap.size≤b∧(Up listed 16→b≠v)) w' (some ⟨g,0,none⟩) l2 bs) (hf2:Up listed 2→p60=.int .i64 x) (hf3:Up listed 3→p61=.int .i64 (j:Int)) (hf4:Up listed 4→p62=.pointer (some ⟨go,j,none⟩)) (hf5:Up listed 5→p63=.pointer (some ⟨go,j,none⟩)) (hf6:Up listed 6→p64=.func (.func F) #[] #[]) (hf7:Up listed 7→p65=.int .i64 lv) (hf8:Up listed 8→p66=.int .i64 y) (hf9:Up listed 9→p67=.int .i64 z) (hf10:Up listed 10→p68=.int .i64 nv) (hf11:Up listed 11→p69=.agg #[.int .i64 x,.int .i64 nv]) (hS:Up listed 12→Up listed 1∧p70=.tuple #[.agg #[.slice p3 m3 e3,.slice p4 m4 e4,.int .i64 D,.slice (some ⟨g,0,none⟩) l2 l2],.int .i64 0]∧SlP (fun b=>w0.heap.size≤b∧(Up listed 16→b≠v)) w' p3 m3 us∧SlP (fun b=>w0.heap.size≤b∧(Up listed 16→b≠v)) w' p4 m4 ts) (hf13:Up listed 13→p57=.tuple #[.agg #[.slice p3 m3 e3,.slice p4 m4 e4,.int .i64 D,.slice (some ⟨g,0,none⟩) l2 l2],.int .i64 0]) (hW13:Up listed 13→Up listed 12∧Up listed 1) (hf14:Up listed 14→p71=.agg #[.slice p3 m3 e3,.slice p4 m4 e4,.int .i64 D,.slice (some ⟨g,0,none⟩) l2 l2]) (hW14:Up listed 14→Up listed 12∧Up listed 1) (hf15:Up listed 15→p72=.int .i64 0) (hA:Up listed 16→p19=.pointer (some ⟨v,0,none⟩)∧w0.heap.size≤v∧d_6 w' v x0 x1 x2 x3) (hT:Up listed 17→Up listed 16∧Up listed 12∧x0=.slice p3 m3 e3∧x1=.slice p4 m4 e4∧x2=.int .i64 D∧x3=.slice (some ⟨g,0,none⟩) l2 l2) (hf18:Up listed 18→p18=.int .i64 0):LockInv9 a a' q n c n' c' l d ws ts us D bs j go F x y z lv nv a0 w0 listed act' w'
def l_m (W:World) (us ts:List Int) (D:Int) (bs:List (List (Int×Int))) (s18 s19:Value) (wx:World):Prop:=
 ∃ v a n c a' n' c' q l d,s19=.pointer (some ⟨v,0,none⟩)∧s18=.int .i64 0∧W.heap.size≤v∧d_6 wx v (.slice a n c) (.slice a' n' c') (.int .i64 D) (.slice q l d)∧SlP (fun b=>W.heap.size≤b) wx a n us∧SlP (fun b=>W.heap.size≤b) wx a' n' ts∧BlP (fun b=>W.heap.size≤b) wx q l bs∧Below W.heap.size W wx
end Go.Proofs.YtogdpojnbgeknaaGreatDoor
