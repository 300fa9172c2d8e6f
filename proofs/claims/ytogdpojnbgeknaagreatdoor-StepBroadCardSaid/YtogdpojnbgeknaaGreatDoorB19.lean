import Derived.Test.YtogdpojnbgeknaaGreatDoorB4
import Derived.Test.YtogdpojnbgeknaaGreatDoorB18
import Derived.Test.YtogdpojnbgeknaaGreatDoorB0
import Derived.Test.YtogdpojnbgeknaaGreatDoorB8
import Derived.Test.YtogdpojnbgeknaaGreatDoorB11
set_option maxRecDepth 100000
set_option maxHeartbeats 16000000
namespace Go.Proofs.YtogdpojnbgeknaaGreatDoor
open Go.ChangeShapes Go.WideShapes Go.ChangeAt Go.RowKit
open Gen
structure StillT (t x:Thr):Prop where
 pc:x.pc=t.pc
 r:x.r=t.r
 st:x.st≠0
 ft:t.st=2→x.st=2∧x.ft=t.ft
theorem o_g {X:Wo} {k i:Nat} (hi:i < X.th.length):thW (d_x X k) i=i_M k (if k=i then flT X k else thW X i):=by
 have hl:(d_x X k).th=(X.th.set k (flT X k)).map (i_M k):=rfl;unfold thW;rw [hl,List.getD_eq_getElem?_getD,List.getElem?_map,List.getElem?_set]
 by_cases e:k=i
 ·subst e;simp [hi]
 ·simp [e,hi,List.getD_eq_getElem?_getD]
theorem d_E {k n:Nat} (h:k < n):n - ((k:Int)+1).toNat < n - (k:Int).toNat:=by omega
theorem n_n {X:Wo} {i:Nat} (hr:a_6 X=true) (hi:i < X.th.length):i_B X i=0:=by
 unfold i_B f_r;rw [if_pos hr,if_pos (by simp only [decide_eq_true_eq];omega)]
def brI:Ins:=(22,0,0,0)
def brC (X:Wo) (p:Nat):Wo:={ X with code:=X.code.set p brI }
theorem n_Z {X:Wo} {p:Nat} (h:a_6 X=true):a_6 (brC X p)=true:=by
 have hc:b_U (X.code.set p brI)=true:=by
  have h0:b_U X.code=true:=by
   simp only [a_6,Bool.and_eq_true] at h;exact h.1.1.1
  simp only [b_U,Bool.and_eq_true,List.all_eq_true,List.length_set] at h0 ⊢;refine ⟨h0.1,fun i hi=>?_⟩
  rcases List.mem_or_eq_of_mem_set hi with h1 | rfl
  ·exact h0.2 i h1
  ·simp [c_K,brI,opSign,kOk,e_c,List.range,List.range.loop]
 simp only [a_6,Bool.and_eq_true] at h ⊢;exact ⟨⟨⟨hc,h.1.1.2⟩,h.1.2⟩,h.2⟩
theorem n_Y {X:Wo} {p m:Nat} (h:OkW X m):OkW (brC X p) m:=by
 refine ⟨n_Z h.right,⟨fun i hi=>?_,h.wf.ws,h.wf.bs,h.wf.th⟩,h.ev⟩
 rcases List.mem_or_eq_of_mem_set hi with h1 | rfl
 ·exact h.wf.code i h1
 ·exact ⟨by show (Lit.int .i64 0).wf=true;decide,by show (Lit.int .i64 0).wf=true;decide,by show (Lit.int .i64 0).wf=true;decide⟩
structure BrI (C:List Ins) (p k m:Nat) (ws:List Int) (Z:Wo):Prop where
 ok:OkW Z m
 code:Z.code=C
 at_:C[p]?=some brI
 hk:k < Z.th.length
 pc:(thW Z k).pc=p
 lf:(thW Z k).lf=ws
 len:ws.length=Z.th.length
 pos:∀ x∈ws,0≤x∧x≤8
theorem l_L {ws:List Int} (h:∀ x∈ws,0≤x∧x≤8):0≤ws.sum∧ws.sum≤8*ws.length∧(ws.all (fun n=>decide (n=0))=decide (ws.sum=0)):=by
 induction ws with
 | nil=>simp
 | cons a l ih =>
  have ha:=h a (List.mem_cons_self);obtain ⟨i1,i2,i3⟩:=ih (fun x hx=>h x (List.mem_cons_of_mem _ hx));refine ⟨by simp only [List.sum_cons];omega,by simp only [List.sum_cons,List.length_cons];omega,?_⟩;rw [List.all_cons,i3,List.sum_cons,←Bool.decide_and];exact decide_eq_decide.2 ⟨fun h=>by omega,fun h=>by omega⟩
theorem t_3 {C:List Ins} {p k m:Nat} {ws:List Int} {Z:Wo} (H:BrI C p k m ws Z) (h:(thW Z k).st=0):g_8 Z k=decide (ws.sum=0):=by
 have hp:p < C.length:=(List.getElem?_eq_some_iff.1 H.at_).1;unfold g_8 n_A;rw [if_neg (by rw [h];decide),H.pc,H.code,if_neg (by omega)]
 have hi:inW Z (p:Int)=brI:=by
  rw [inW,H.code,Int.toNat_natCast,List.getD_eq_getElem?_getD,H.at_];rfl
 rw [hi];simp only [k_C,brI];simp only [show ¬ ((22:Int)=17) by decide,show ¬ ((22:Int)=18∨(22:Int)=19∨(22:Int)=20∨(22:Int)=21) by decide,if_false,if_true];rw [H.lf];exact (l_L H.pos).2.2
theorem u_F {X:Wo} {k:Nat} (h:a_6 X=true) (hk:k < X.th.length):0≤(thW X k).pc:=by
 simp only [a_6,Bool.and_eq_true,List.all_eq_true] at h;have hm:thW X k∈X.th:=by rw [thW,List.getD_eq_getElem?_getD,List.getElem?_eq_getElem hk];exact List.getElem_mem hk
 have h1:=h.2 _ hm;simp only [e_o,Bool.and_eq_true] at h1;exact (b_x h1.1).1
theorem q_t {X:Wo} {p k m:Nat} (hx:OkW X m) (hk:k < X.th.length) (hst:(thW X k).st=0) (hpc:(thW X k).pc=p) (hp:p < X.code.length) (hlf:(thW X k).lf=[]) :
  m_r (brC X p) k=0∧OkW (h_B (brC X p) k) (m+1)∧BrI (X.code.set p brI) p k (m+1) (b_m X) (h_B (brC X p) k):=by
 have hok:=n_Y (p:=p) hx;have ht:thW (brC X p) k=thW X k:=rfl
 have hin:inW (brC X p) (p:Int)=brI:=by
  show (X.code.set p brI).getD _ _=_
  rw [Int.toNat_natCast,List.getD_eq_getElem?_getD,List.getElem?_set_self hp];rfl
 have hcl:((brC X p).code.length:Int)=X.code.length:=by show ((X.code.set p brI).length:Int)=_;rw [List.length_set]
 have hcan:g_8 (brC X p) k=true:=by
  unfold g_8 n_A;rw [ht,if_neg (by rw [hst];decide),hpc,if_neg (by rw [hcl];omega),hin];simp [k_C,brI,hlf]
 have hbeg:i_B (brC X p) k=0:=by
  unfold i_B f_r;rw [if_pos hok.right,if_pos (by simp only [decide_eq_true_eq];exact ⟨by omega,by show (k:Int) < X.th.length;omega⟩)]
 have hE:m_r (brC X p) k=0:=by
  unfold m_r;rw [if_pos hbeg,Int.toNat_natCast,if_pos hcan]
 have hsW:h_B (brC X p) k=c_R (brC X p) k:=by rw [h_B,if_pos hE,Int.toNat_natCast]
 have hse:g_q (brC X p) k=0:=by
  unfold g_q;rw [ht,hpc,if_neg (by rw [hcl];omega),hin];simp [d_f,brI]
 have hst2:c_R (brC X p) k=b_k (brC X p) k { thW X k with lf:=b_m X }:=by
  unfold c_R;rw [if_pos hse,ht,hpc,hin];simp only [d_3,brI];simp only [show ¬ ((22:Int)=0) by decide,show ¬ ((1:Int)≤22∧(22:Int)≤15) by decide,show ¬ ((22:Int)=16) by decide,show ¬ ((22:Int)=17) by decide,show ¬ ((19:Int)≤22∧(22:Int)≤21) by decide,if_false,if_true];rw [if_pos (by rw [hlf];rfl)]
  rfl
 have hdo:doW (brC X p) (0,(k:Int))=c_R (brC X p) k:=by
  unfold doW e_f
  rw [if_pos (by
   simp only [if_true,Int.toNat_natCast,hcan,Bool.and_true,f_r,decide_eq_true_eq];exact ⟨by omega,by show (k:Int) < X.th.length;omega⟩)]
  simp
 have hok2:OkW (h_B (brC X p) k) (m+1):=by rw [hsW,←hdo];exact o_6 hok
 have hpar:=a_S (a_M hx.right).2.1;have hxs:=(okS hx.right).1.2
 have hself:thW (b_k (brC X p) k { thW X k with lf:=b_m X }) k={ thW X k with lf:=b_m X }:=by
  show (X.th.set k _).getD k d_z=_
  rw [List.getD_eq_getElem?_getD,List.getElem?_set_self hk];rfl
 refine ⟨hE,hok2,hok2,?_,?_,?_,?_,?_,?_,?_⟩
 ·rw [hsW,j_9];rfl
 ·rw [List.getElem?_set_self hp]
 ·rw [hsW,i_5];exact hk
 ·rw [hsW,hst2,hself];exact hpc
 ·rw [hsW,hst2,hself]
 ·rw [hsW,i_5];show (b_m X).length=X.th.length;simp [b_m,hxs]
 ·intro x hx2;obtain ⟨b,hb,rfl⟩:=List.mem_map.1 hx2;obtain ⟨i,hi,rfl⟩:=List.mem_iff_getElem.1 hb;have h4:=(hpar.2.2.2 i hi).1;have e:X.bs.getD i []=X.bs[i]:=by simp [hi]
  rw [e] at h4
  omega
def brF (Z:Wo) (a:Int×Int):Bool:=decide (a.1=1)&&f_r Z a.2&&decide ((bfW Z a.2.toNat).length≠0)
def brN (Z:Wo) (a:Int×Int) (ws:List Int):List Int:=if (brF Z a&&decide (0 < ws.getD a.2.toNat 0))=true then ws.set a.2.toNat (ws.getD a.2.toNat 0 - 1) else ws
theorem i_I {ws:List Int} {j:Nat} (h:j < ws.length):ws.getD j 0∈ws:=by
 rw [List.getD_eq_getElem?_getD,List.getElem?_eq_getElem h];exact List.getElem_mem h
theorem r_w {ws:List Int} {j:Nat} (h:j < ws.length):ws.set j (ws.getD j 0)=ws:=by
 apply List.ext_getElem (by simp)
 intro i h1 h2;rw [List.getElem_set]
 split
 ·rename_i e;subst e;simp [List.getD_eq_getElem?_getD,h]
 ·rfl
theorem r_4 (Z:Wo) (k:Nat):(flT Z k).pc=(thW Z k).pc∧(flT Z k).lf=(thW Z k).lf:=by
 unfold flT
 split
 ·exact ⟨rfl,rfl⟩
 ·exact ⟨rfl,rfl⟩
theorem s_E {C:List Ins} {p k m:Nat} {ws:List Int} {Z:Wo} {a:Int×Int} (H:BrI C p k m ws Z) (ha:¬ (a.1=0∧a.2=k)):BrI C p k (m+1) (brN Z a ws) (doW Z a):=by
 have hok:=o_6 (a:=a) H.ok;have hl:=t_7 Z a;unfold brN brF
 by_cases hd:e_f Z a=true
 ·by_cases h0:a.1=0
  ·have hn:(decide (a.1=1)&&f_r Z a.2&&decide ((bfW Z a.2.toNat).length≠0)&&decide (0 < ws.getD a.2.toNat 0))=false:=by simp [h0]
   rw [hn,if_neg (by decide)];have hhas:f_r Z a.2=true:=by simp only [e_f,Bool.and_eq_true] at hd;exact hd.1
   simp only [f_r,decide_eq_true_eq] at hhas;have hne:a.2.toNat≠k:=by intro e;exact ha ⟨h0,by omega⟩
   have e:doW Z a=c_R Z a.2.toNat:=by rw [doW,if_pos hd,if_pos h0]
   rw [e] at hok hl ⊢;have et:=r_A (X:=Z) (k:=a.2.toNat) (i:=k) hne;exact ⟨hok,by rw [j_9];exact H.code,H.at_,by rw [hl];exact H.hk,by rw [et];exact H.pc,by rw [et];exact H.lf,by rw [hl];exact H.len,H.pos⟩
  ·have e:doW Z a=d_x Z a.2.toNat:=by rw [doW,if_pos hd,if_neg h0]
   have hd2:=hd;simp only [e_f,if_neg h0,Bool.and_eq_true,decide_eq_true_eq] at hd2;have hh:f_r Z a.2=true:=hd2.1;have hhas:=hh;simp only [f_r,decide_eq_true_eq] at hhas;have hj:a.2.toNat < ws.length:=by rw [H.len];omega
   have hpos:=H.pos _ (i_I hj)
   have hn:(decide (a.1=1)&&f_r Z a.2&&decide ((bfW Z a.2.toNat).length≠0))=true:=by
    simp only [Bool.and_eq_true,decide_eq_true_eq];exact ⟨⟨hd2.2.1,hh⟩,hd2.2.2⟩
   rw [hn,Bool.true_and];obtain ⟨j,hj2⟩:=mn (a.2.toNat);rw [hj2] at hj hpos e ⊢;rw [e] at hok hl ⊢;have et:=o_g (X:=Z) (k:=j) (i:=k) H.hk;obtain ⟨u,hu⟩:=mn ((if j=k then flT Z j else thW Z k))
   have hup:u.pc=p∧u.lf=ws:=by
    rw [←hu]
    split
    ·rename_i ej
     rw [ej,(r_4 Z k).1,(r_4 Z k).2];exact ⟨H.pc,H.lf⟩
    ·exact ⟨H.pc,H.lf⟩
   rw [hu] at et;have hll:¬ ws.length=0:=by omega
   have el:i_M j u={ u with lf:=ws.set j (max 0 (ws.getD j 0 - 1)) }:=by
    unfold i_M;rw [if_neg (by rw [hup.2];exact hll),hup.2]
   have ew:(if decide (0 < ws.getD j 0)=true then ws.set j (ws.getD j 0 - 1) else ws)=ws.set j (max 0 (ws.getD j 0 - 1)):=by
    by_cases q:0 < ws.getD j 0
    ·rw [if_pos (decide_eq_true q)]
     congr 1;omega
    ·rw [if_neg (by simp only [decide_eq_true_eq];exact q)];have:max 0 (ws.getD j 0 - 1)=ws.getD j 0:=by omega
     rw [this,r_w hj]
   rw [ew];refine ⟨hok,H.code,H.at_,by rw [hl];exact H.hk,by rw [et,el];exact hup.1,by rw [et,el],by rw [List.length_set,hl];exact H.len,fun x hx=>?_⟩
   rcases List.mem_or_eq_of_mem_set hx with h1 | rfl
   ·exact H.pos x h1
   ·omega
 ·have e:doW Z a=Z:=by rw [doW,if_neg hd]
  have hn:(decide (a.1=1)&&f_r Z a.2&&decide ((bfW Z a.2.toNat).length≠0))=false:=by
   cases hc:(decide (a.1=1)&&f_r Z a.2&&decide ((bfW Z a.2.toNat).length≠0)) with
   | false=>rfl
   | true =>
    exfalso;apply hd
    simp only [Bool.and_eq_true,decide_eq_true_eq] at hc;simp only [e_f,Bool.and_eq_true,if_neg (show ¬ a.1=0 by rw [hc.1.1];decide),decide_eq_true_eq];exact ⟨hc.1.2,hc.1.1,hc.2⟩
  rw [hn,Bool.false_and,if_neg (by decide)];rw [e] at hok hl ⊢;exact ⟨hok,H.code,H.at_,H.hk,H.pc,H.lf,H.len,H.pos⟩
theorem r_2 {C:List Ins} {p k m:Nat} {ws:List Int} {Z:Wo} (H:BrI C p k m ws Z):i_B Z k=0:=n_n H.ok.right H.hk
theorem n_i {code:List Ins} {ws ts starts:List Int} {D:Int} (h1:b_U code=true) (h2:d_g ws ts=true) (h3:1≤starts.length∧starts.length≤8) (h4:0≤D∧D≤8) (h5:∀ s∈starts,0≤s∧s≤code.length):a_6 (l_b code starts ws ts D)=true:=by
 have h6:=(d_t h1).1;refine f_Z h1 (mayT_iff.2 ⟨h2,?_,fun b hb=>?_⟩) ?_ ?_
 ·simp only [c_f,l_b,List.length_replicate,decide_eq_true_eq];omega
 ·obtain rfl:=(List.mem_replicate.1 hb).2;simp only [g_c,List.length_nil,List.all_nil,Bool.and_true,decide_eq_true_eq];exact h4.1
 ·simp [l_b]
 ·intro t ht;obtain ⟨s,hs,rfl⟩:=List.mem_map.1 ht;have:=h5 s hs;exact oneW_iff.2 ⟨⟨this.1,by show s≤1000;omega⟩,rfl,rfl,rfl,.inl rfl⟩
def p_2 (n:Nat) (s:Int):Int:=((s.tmod (n+1))+n+1).tmod (n+1)
theorem o_B (n:Nat) (s:Int):0≤p_2 n s∧p_2 n s≤n:=by
 have h0:(0:Int) < (n:Int)+1:=by omega
 have h1:=Int.tmod_lt_of_pos s h0;have h2:-((n:Int)+1) < s.tmod (n+1):=Int.neg_lt_of_neg_lt (by have:=Int.tmod_lt_of_pos (-s) h0;rw [Int.neg_tmod] at this;omega);have h3:0≤s.tmod (n+1)+n+1:=by omega
 have h4:=Int.tmod_nonneg ((n:Int)+1) h3;have h5:=Int.tmod_lt_of_pos (s.tmod (n+1)+n+1) h0;exact ⟨h4,by unfold p_2;omega⟩
theorem u_r {code:List Ins} {ws ts starts:List Int} {D:Int} (h1:∀ i∈code,W64 i.2.1∧W64 i.2.2.1∧W64 i.2.2.2) (h2:∀ z∈ws,W64 z):WfW (l_b code starts ws ts D):=by
 refine ⟨h1,h2,fun b hb=>?_,fun t ht=>?_⟩
 ·rw [(List.mem_replicate.1 hb).2];intro p hp;exact absurd hp List.not_mem_nil
 ·obtain ⟨s,-,rfl⟩:=List.mem_map.1 ht;exact ⟨fun _=>e_b,fun f hf=>by cases hf⟩
theorem o_7 {code:List Ins} {ws ts starts:List Int} {D:Int} (h1:b_U code=true) (h2:d_g ws ts=true) (h3:1≤starts.length∧starts.length≤8) (h4:0≤D∧D≤8) (h5:∀ s∈starts,0≤s∧s≤code.length) (h6:∀ i∈code,W64 i.2.1∧W64 i.2.2.1∧W64 i.2.2.2) (h7:∀ z∈ws,W64 z):OkW (l_b code starts ws ts D) 0:=
 ⟨n_i h1 h2 h3 h4 h5,u_r h6 h7,Nat.le_refl _⟩
end Go.Proofs.YtogdpojnbgeknaaGreatDoor
namespace Go.Proofs.YtogdpojnbgeknaaGreatDoor
open Go.ChangeShapes Go.WideShapes Go.ChangeAt Go.RowKit
def s_s (a a':Option Addr) (n c n' c':Nat) (D:Int) (k:Nat) (bs:List (List (Int×Int))) (w:World) (e:Ending) (w':World):Prop:=
 ∃ q d,e=.returned (.agg #[.slice a n c,.slice a' n' c',.int .i64 D,.slice q k d])∧BlP (fun b=>w.heap.size≤b) w' q k bs∧Below w.heap.size w w'
theorem m_I {Q:Nat→Prop} {w w':World} {vs:List Value} {bs:List (List (Int×Int))} (h:n_D w vs bs) (h0:∀ x∈bs,x=[]):g_z Q w' vs bs:=
 ⟨h.1,fun i hi=>by
  obtain ⟨q,c,h1,h2,_⟩:=h.2 i hi
  have e:bs.getD i []=[]:=by
   rw [List.getD_eq_getElem?_getD,List.getElem?_eq_getElem hi];exact h0 _ (List.getElem_mem hi)
  rw [e] at h1 h2 ⊢;exact ⟨q,c,h1,h2,rfl,.inl rfl⟩⟩
theorem j_W (a a':Option Addr) (n c n' c' k:Nat) (D:Int) (w:World) (hk8:k≤8) :
  Calls Tryz.prog 35 #[.agg #[.slice a n c,.slice a' n' c'],.int .i64 k,.int .i64 D] w (s_s a a' n c n' c' D k (List.replicate k []) w):=by
 obtain ⟨i0,hi,hz0,hz1,hz2⟩:=info_parts Tryz.info55;have HI:=N44;clear hi hz0 hz1 hz2
 go_enter Tryz.func35,Tryz.ntmps35
 go_upto_region 2 with fail
 obtain ⟨W,hW⟩:=nm (((w.alloc (Obj.cells #[.slice a n c,.slice a' n' c'] 26)).alloc (Obj.cells #[.slice none 0 0,.slice none 0 0,.int .i64 0,.slice none 0 0] 30)).alloc (Obj.cells #[.slice a n c,.slice a' n' c',.int .i64 D,.slice none 0 0] 30));have b0:=N2;have R0:e_d W (w.heap.size+1) (.slice none 0 0) (.slice none 0 0) (.int .i64 0) (.slice none 0 0):=by rw [hW];exact g_H _ (c_l _ (by simp))
 have X0:e_d W (w.heap.size+1+1) (.slice a n c) (.slice a' n' c') (.int .i64 D) (.slice none 0 0):=by rw [hW];exact c_l _ (by simp)
 rw [←hW];have hWs:w.heap.size+1+1 < W.heap.size:=d_d X0;have ⟨HB0,HR0,HX0⟩:=hh3 b0 R0 X0;clear hW b0 R0 X0
 go_wp2_with fail
 go_loopw [8] (fun i wr=>∃ (j:Nat) (v:Value) (vs:List Value),j≤k∧i=.int .i64 j∧Hid (wr.ownsRow (w.heap.size+1+1+1) 55 1 v j vs)∧Hid (n_D w vs (List.replicate j []))∧Hid (e_d wr (w.heap.size+1+1) (.slice a n c) (.slice a' n' c') (.int .i64 D) v)∧Hid (e_d wr (w.heap.size+1) (.slice none 0 0) (.slice none 0 0) (.int .i64 0) (.slice none 0 0))∧Below w.heap.size w wr) (fun i _=>k - (intOf i).toNat)
 case atStart=>exact ⟨0,_,[],by omega,rfl,World.ownsRow_nil _ _ _ _,n_2 w,HX0.out,HR0.out,HB0.out⟩
 case round =>
  obtain ⟨j,v,vs,hj,rfl,ho,hv,hx,hr,hb⟩:=hrel
  by_cases hlt:j < k
  ·obtain ⟨va,vc,rfl⟩:=g_n ho.out;have HB:=Lib.hid hb;have hsx:=d_d hx.out;obtain ⟨⟨x0,x1,x2,x3⟩,y0,y1,y2,y3⟩:=id hx.out;clear hb
   go_wp2_with (at_builtin;refine wpList_append_own_at _ rfl _ _ 28 rfl (w.heap.size+1+1+1) 55 i0 (.slice none 0 0) 1 24 Tryz.underlying28 HI.out.1 HI.out.2.1 HI.out.2.2.1 HI.out.2.2.2 rfl (by decide) _ _ _ rfl (ho.out.alloc _) ⟨wr.heap.size,0,none⟩ 1 1 [.slice none 0 0] rfl rfl ?c1 ?c2 ?c3 ?c4 ?c5 ?_)
   case c1=>exact cell_one_new _ _ _
   case c2=>intro x hx;simp at hx;subst hx;rfl
   case c3=>unfold maxLen;omega
   case c4=>omega
   case c5=>simp;omega
   intro v' w1 hown hgrow _ _;obtain ⟨v2,c2,rfl⟩:=g_n hown;have hB:Below (w.heap.size+1+1+1) wr w1:=g_k ((Below.refl _ _).alloc (by omega) _) (by simp;omega) hgrow ho.out;have X1:=i_8 hB (Nat.lt_succ_self _) hx.out;obtain ⟨⟨z0,z1,z2,z3⟩,f0,f1,f2,f3⟩:=id X1;have ⟨HX1,HOW,HBB⟩:=hh3 X1 hown hB;clear X1 hown hgrow hB x0 x1 x2 x3 y0 y1 y2 y3
   go_wp2_with fail
   go_roundw
   case rel =>
    refine ⟨j+1,_,_,by omega,by go_num,ownsRow_setCell_below HOW.out (by simp) _,?_,h_F HX1.out _,c_c (i_8 HBB.out (by omega) hr.out) (by omega) _,((HB.out.trans (HBB.out.mono (by omega))).setCell (by simp;omega) _)⟩;rw [List.replicate_succ'];exact m_J hv.out e_e (s_b w)
   case measure=>simp [intOf];omega
  ·obtain rfl:j=k:=by omega
   obtain ⟨va,vc,rfl⟩:=g_n ho.out;have HB:=Lib.hid hb;have HF:=Lib.hid (b_A hr.out (.slice a n c) (.slice a' n' c') (.int .i64 D) (.slice va j vc));obtain ⟨⟨x0,x1,x2,x3⟩,-⟩:=id hx.out;obtain ⟨⟨r0,r1,r2,r3⟩,f0,f1,f2,f3⟩:=id hr.out;clear hb
   go_wp2
   refine a_X ⟨w.heap.size+1,0,none⟩ rfl rfl rfl (a_9 _ _ _ _ _ _ HF.out.1.1 HF.out.1.2.1 HF.out.1.2.2.1 HF.out.1.2.2.2) ?_;have hbf:=a_W (g:=w.heap.size+1) HB.out (by omega) (.slice a n c) (.slice a' n' c') (.int .i64 D) (.slice va j vc);obtain ⟨z1,z2,e,-,hbl⟩:=h_n (Q:=fun b=>w.heap.size≤b) (ownsRow_setCell_below (ownsRow_setCell_below (ownsRow_setCell_below (ownsRow_setCell_below ho.out (a:=⟨w.heap.size+1,0,none⟩) (by simp) (.slice a n c)) (a:=⟨w.heap.size+1,1,none⟩) (by simp) (.slice a' n' c')) (a:=⟨w.heap.size+1,2,none⟩) (by simp) (.int .i64 D)) (a:=⟨w.heap.size+1,3,none⟩) (by simp) (.slice va j vc)) (m_I hv.out (fun x hx=>(List.mem_replicate.1 hx).2)) (fun b h=>by omega)
   cases e
   exact ⟨_,_,rfl,hbl,hbf⟩
end Go.Proofs.YtogdpojnbgeknaaGreatDoor
namespace Go.Proofs.YtogdpojnbgeknaaGreatDoor
open Go.ChangeShapes Go.WideShapes Go.ChangeAt Go.RowKit
open Gen
open Lib (hid)
def atT (s:Int):Thr:={ d_z with pc:=s }
def r_0 (starts:List Int) (k:Nat):List Thr:=(starts.take k).map atT
theorem n_U {starts:List Int} {k:Nat} {s:Int} (h:starts[k]?=some s):r_0 starts (k+1)=r_0 starts k++[atT s]:=by
 obtain ⟨hk,rfl⟩:=List.getElem?_eq_some_iff.1 h;rw [r_0,List.take_succ_eq_append_getElem hk,List.map_append];rfl
theorem q_l {starts:List Int} {n:Nat} (h:starts.length=n):r_0 starts n=starts.map atT:=by rw [r_0,List.take_of_length_le (by omega)]
theorem s_h {Q:Nat→Prop} {w:World} (s:Int):ThQ Q w none 0 0 none 0 0 (atT s):=⟨b_W,d_h,b_W,d_h⟩
theorem q_8 (Q:Nat→Prop) (L:WoL) (code:List Ins) (ws ts starts:List Int) (D:Int) (sa:Option Addr) (sn sc:Nat) (w:World) (C:Vs repIns Q w L.co.a L.co.n code) (W1:SlP Q w L.ws.a L.ws.n ws) (T1:SlP Q w L.ts.a L.ts.n ts) (S:Sl w sa sn starts) (hQ:∀ b,w.heap.size≤b→Q b) (hn:sn≤8) (hc:L.co.ok) :
  Calls Tryz.prog 14 #[.slice L.co.a L.co.n L.co.c,.slice sa sn sc,.agg #[.slice L.ws.a L.ws.n L.ws.c,.slice L.ts.a L.ts.n L.ts.c],.int .i64 D] w (b_D Q (l_b code starts ws ts D) w):=by
 have HSL:=hid (show starts.length=sn from S.1);obtain ⟨Q1,hQ1⟩:∃ Q1:Nat→Prop,Q1=fun b=>Q b∧(b < w.heap.size∨w.heap.size+2≤b):=⟨_,rfl⟩
 have HQ2:=N102;obtain ⟨W,hW⟩:=nm ((w.alloc (Obj.cells #[.slice L.ws.a L.ws.n L.ws.c,.slice L.ts.a L.ts.n L.ts.c] 26)).alloc (Obj.cells woZ.toArray 33));have HM:=N99;have HZ:=N64;have HB:=N3;have HSZ:=N43;have HW:=hid hW;have hkW:Kept (fun b=>Q b∧b < w.heap.size) w W:=c_r HB.out (fun _ h=>h.2);have HCO:=hid (show Vs repIns (fun b=>Q1 b∧b < W.heap.size) W L.co.a L.co.n code from b_e (fun b h=>by rw [hQ1];have:=HSZ.out;exact ⟨⟨h.1,.inl h.2⟩,by omega⟩) (a_B hkW (c_S C)));have HWS:=hid (show SlP (fun b=>Q1 b∧b < W.heap.size) W L.ws.a L.ws.n ws from a_n (fun b h=>by rw [hQ1];have:=HSZ.out;exact ⟨⟨h.1,.inl h.2⟩,by omega⟩) (a_r hkW (d_Y (fun _ q h=>⟨q,h⟩) W1)));have HTS:=hid (show SlP (fun b=>Q1 b∧b < W.heap.size) W L.ts.a L.ts.n ts from a_n (fun b h=>by rw [hQ1];have:=HSZ.out;exact ⟨⟨h.1,.inl h.2⟩,by omega⟩) (a_r hkW (d_Y (fun _ q h=>⟨q,h⟩) T1)));have ⟨HS,HCC,HN⟩:=hh3 S hc hn;obtain ⟨j0,ki,kz0,kz1,kz2⟩:=info_parts l_Z;have HJ:=N73;have h0:=j_W L.ws.a L.ts.a L.ws.n L.ws.c L.ts.n L.ts.c sn D W hn;have HC:=hid h0;clear hW hkW hQ1 hQ C W1 T1 S hc h0 ki kz0 kz1 kz2 hn
 go_enter Tryz.func14,Tryz.ntmps14
 go_upto_region 1 with fail
 rw [←HW.out];obtain ⟨m0,-⟩:=HM.out 0 _ rfl;obtain ⟨m1,-⟩:=HM.out 1 _ rfl
 go_wp2_with fail
 refine HC.out.mono ?_;rintro e1 w1 ⟨q,d,rfl,BL,hb1⟩;clear HC m0 m1;have ⟨HB1,HBL⟩:=hh2 hb1 BL;clear hb1 BL
 go_upto_region 2 with (refine a_c rfl 33 _ _ rfl w1.heap.size (woC { L with bs:=⟨q,sn,d⟩,th:=zSp,ev:=zSp } D).toArray rfl rfl _ (a_e woZ w1.heap.size rfl) rfl (by kernel_rfl) (b_p _ _) ?_;intro V HV)
 obtain ⟨M,hM⟩:∃ M:WoL,M={ L with bs:=⟨q,sn,d⟩,th:=zSp,ev:=zSp }:=⟨_,rfl⟩;have hs1:W.heap.size≤w1.heap.size:=HB1.out.size;have HX:=hid (show a_p V w1.heap.size (woC M D) by rw [HV.out,hM];exact a_q (a_e woZ _ rfl) rfl);have HZ1:=hid (show a_p V (w.heap.size+1) woZ by rw [HV.out];exact a_j (by have:=HSZ.out;omega) (a_s _ (a_h HB1.out HZ.out)));have HB2:=hid (show Below W.heap.size W V by rw [HV.out];exact a_g hs1 (HB1.out.alloc hs1 _));have HS2:=hid (show V.heap.size=w1.heap.size+1 by rw [HV.out,a_O];simp)
 have HBV:=hid (show BlP (fun b=>Q1 b∧b≠w1.heap.size∧b < V.heap.size) V q sn (List.replicate sn []) from by
  have hk:Kept (fun b=>W.heap.size≤b∧b < w1.heap.size) w1 V:=by rw [HV.out];exact a_3 (e_h _ _) (a_u (fun b hb=>by omega))
  exact a_H (fun b h=>⟨HQ2.out.2.2 b (by have:=HSZ.out;omega),by omega,by have:=HS2.out;omega⟩) (a_G hk (g_b (fun _ q h=>⟨q,h⟩) HBL.out)))
 have HMM:=hid hM;clear hM HV HBL
 go_upto_region 3 with fail
 go_wp2_with fail
 obtain ⟨G,hG⟩:=mn (w1.heap.size);rw [hG] at HX HBV HS2 hs1 ⊢;have HGH:=hid hG;clear hG;have HTT:=hid (show M.th=zSp by rw [HMM.out])
 go_loopw [11,21] (fun _ i wr=>∃ (k:Nat) (v:Value) (cs:List Value),k≤sn∧i=.int .i64 k∧Hid (wr.ownsRow (G+1) 46 13 v k cs)∧Hid (d_p repTh (fun _=>False) wr cs (r_0 starts k))∧Hid (a_p wr G ((woC M D).set 5 v))∧Hid (Below G V wr)∧Hid (a_p wr (w.heap.size+1) woZ)) (fun _ i _=>sn - (intOf i).toNat)
 case atStart =>
  refine ⟨0,.slice none 0 0,[],by omega,rfl,World.ownsRow_nil _ _ _ _,rfl,?_,Below.refl _ _,HZ1.out⟩;have e:(woC M D).set 5 (.slice none 0 0)=woC M D:=by simp only [woC,HTT.out];rfl
  rw [e];exact HX.out
 case round =>
  obtain ⟨k,v,cs,hk,rfl,ho,hf,hx,hb,hz⟩:=hrel;obtain ⟨va,vc,rfl⟩:=c_g ho.out;have hsx:=a_N hx.out (by simp);have HBV2:=hid (show Below W.heap.size W wr from HB2.out.trans (hb.out.mono (by omega)))
  by_cases hlt:k < sn
  ·obtain ⟨b,o,rfl,hrow⟩:=HS.out.2.resolve_left (by omega);obtain ⟨s,hs⟩:=mn (starts.getD k 0);have hk2:k < starts.length:=by have:=HSL.out;omega
   have hss:starts[k]?=some s:=by rw [←hs,List.getD_eq_getElem?_getD,List.getElem?_eq_getElem hk2];rfl
   have hc:=a_t HBV2.out (a_t HB.out (hrow k hk2));rw [hs] at hc;have HNX:=hid (n_U hss);have i1:(0:Int)≤k:=by omega
   have i2:(k:Int) < sn:=by omega
   obtain ⟨x5,y5⟩:=hx.out 5 _ rfl;have hwk:=N222;obtain ⟨wo,hwo⟩:=nm (wr);subst hwo;clear hrow hs hss
   go_wp2_with (at_builtin;refine wpList_append_own _ rfl _ _ 24 rfl (G+1) 46 j0 (.agg thN.toArray) 13 136 Tryz.underlying24 HJ.out.1 HJ.out.2.1 HJ.out.2.2.1 HJ.out.2.2.2 rfl (by decide) (.slice va k vc) k cs rfl (ho.out.alloc _) ⟨wo.heap.size,0,none⟩ 1 1 (thC (atT s) none 0 0 none 0 0) rfl rfl (e_Q _ _ _) (h_l _ _ _ _ _ _ _) (by have:=HN.out;unfold maxLen;omega) (by have:=HN.out;omega) (by simp;omega) ?_)
   intro v4 w4 hown hgrow _;obtain ⟨va4,vc4,rfl⟩:=c_g hown;have hbo:∀ g,(Value.slice va k vc).ownBlock=some g→G+1≤g:=fun g hg=>(ho.out.lt g hg).1
   have hbw:Below (G+1) wo w4:=((Below.refl _ _).alloc (by omega) _).grown hgrow (by simp;omega) (fun g hr=>by have:=hbo g hr;omega);have HX4:=hid (show a_p w4 G ((woC M D).set 5 (.slice va k vc)) from i_9 hbw (by omega) hx.out);have HZ4:=hid (show a_p w4 (w.heap.size+1) woZ from i_9 hbw (by have:=HSZ.out;omega) hz.out);have HB4:=hid (show Below G V w4 from hb.out.trans (hbw.mono (by omega)))
   have HF4:=hid (show d_p repTh (fun _=>False) w4 (cs++thC (atT s) none 0 0 none 0 0) (r_0 starts (k+1)) by
    rw [HNX.out];exact i_G (b_n (fun b _ _ h=>h.elim) hf.out) ⟨rfl,rfl⟩ (s_h s))
   have HO4:=hid hown;obtain ⟨z5,f5⟩:=HX4.out 5 _ rfl;clear hown hgrow hbo hbw x5 y5 hc;obtain ⟨V4,hV4⟩:=nm (w4.setCell ⟨G,5,none⟩ (.slice va4 (k+1) vc4));have HX5:=hid (show a_p V4 G ((woC M D).set 5 (.slice va4 (k+1) vc4)) by rw [hV4];have h:=a_y HX4.out 5 (by simp) (.slice va4 (k+1) vc4);exact h);have HZ5:=hid (show a_p V4 (w.heap.size+1) woZ by rw [hV4];exact a_l HZ4.out (by have:=HSZ.out;omega) _);have HB5:=hid (show Below G V V4 by rw [hV4];exact HB4.out.setCell (p:=⟨G,5,none⟩) (Nat.le_refl _) _);have HO5:=hid (show V4.ownsRow (G+1) 46 13 (.slice va4 (k+1) vc4) (k+1) (cs++thC (atT s) none 0 0 none 0 0) by rw [hV4];exact ownsRow_setCell_below HO4.out (by simp) _);have HF5:=hid (show d_p repTh (fun _=>False) V4 (cs++thC (atT s) none 0 0 none 0 0) (r_0 starts (k+1)) from b_n (fun b _ _ h=>h.elim) HF4.out);have HV4:=hid hV4;clear hV4
   go_wp2_with fail
   rw [←HV4.out]
   go_roundw
   case rel=>exact ⟨k+1,_,_,by omega,by go_num,HO5.out,HF5.out,HX5.out,HB5.out,HZ5.out⟩
   case measure=>rw [hwk];simp only [intOf];omega
  ·obtain rfl:k=sn:=by omega
   have HTA:=hid (q_l HSL.out);obtain ⟨a2,c2,e2,k1,k2,k3,VT⟩:=e_G (r:=repTh) (Q:=Q1) ho.out (c_n (fun b hb=>hb.elim) hf.out) (fun b hb _=>HQ2.out.2.2 b (by have:=HSZ.out;omega));rw [HTA.out] at VT
   cases e2
   have HXE:=hid (show a_p wr G (woC (M.setTh va k vc) D) from hx.out);have hk:Kept (fun b=>Q1 b∧b < G) V wr:=c_r hb.out (fun _ h=>h.2);have hk2:Kept (fun b=>Q1 b∧b < W.heap.size) W wr:=c_r HBV2.out (fun _ h=>h.2)
   have HRE:=hid (show RWo Q1 wr (M.setTh va k vc) (l_b code starts ws ts D) from by
    rw [HMM.out];refine ⟨b_e (fun _ h=>h.1) (a_B hk2 HCO.out),a_n (fun _ h=>h.1) (a_r hk2 HWS.out),a_n (fun _ h=>h.1) (a_r hk2 HTS.out),?_,VT,d_h,HCC.out,⟨k1,k2,k3⟩,b_W⟩;have h:=a_G hk (a_H (fun b h=>⟨h.1,by have:=h.2;have:=HS2.out;omega⟩) HBV.out)
    show BlP Q1 wr q k (List.replicate starts.length [])
    rw [HSL.out];exact a_H (fun _ h=>h.1) h)
   have HZE:=hid hz.out;have HBE:=hid (show Below w.heap.size w wr from a_a HB.out HBV2.out);clear hk hk2 VT k1 k2 k3 hf ho hx hz
   go_wp2_with (first | (refine wpList_load_mid rfl 33 _ rfl G 0 rfl (woC (M.setTh va k vc) D) _ (a_f HXE.out) Tryz.underlying33 rfl (by kernel_rfl) ?_) | (refine a_c rfl 33 _ _ rfl (w.heap.size+1) (woC (M.setTh va k vc) D).toArray rfl rfl _ HZE.out rfl (by kernel_rfl) (b_p _ _) ?_;intro U HU))
   have HZU:=hid (show a_p U (w.heap.size+1) (woC (M.setTh va k vc) D) by rw [HU.out];exact a_q HZE.out rfl);refine a_X ⟨w.heap.size+1,0,none⟩ rfl rfl rfl (a_E HZU.out 33 Tryz.underlying33 rfl (by kernel_rfl)) ?_;have hkU:Kept Q1 wr U:=by rw [HU.out];exact a_u (fun b hb=>by have:=HQ2.out.2.1 b hb;omega)
   exact a_Z (L:=M.setTh va k vc) rfl (a_D HQ2.out.1 (a_z hkU HRE.out)) (by rw [HU.out];exact a_g (by omega) HBE.out)
abbrev thZ (t:Thr):List Value:=thC t none 0 0 none 0 0
def Ths (n k:Nat) (starts:List Int) (TC:List Value):Prop:=TC.length=n*13∧∀ i,i < n→∀ j v,(thZ (if i < k then atT (starts.getD i 0) else d_z))[j]?=some v→TC[i*13+j]?=some v
theorem q_Y (n:Nat) (h:n≤1000) (w:World):(Instr.makeSlice 24 (.int .i64 n) (.int .i64 n)).run Tryz.prog w=.ok (.slice (some ⟨w.heap.size,0,none⟩) n n) (w.alloc (.cells (madeCells (thZ d_z).toArray (n*13)) 46)):=by
 obtain ⟨i0,hi,hz0,hz1,hz2⟩:=info_parts l_Z;have:=run_make (P:=Tryz.prog) w 24 46 i0 _ Tryz.underlying24 hi hz0 .i64 .i64 n n (by omega) (by omega) (by rw [hz2];omega) (by omega);rw [this,hz1,Int.toNat_natCast]
 rfl
theorem t_r (n:Nat) (starts:List Int):Ths n 0 starts (madeCells (thZ d_z).toArray (n*13)).toList:=by
 refine ⟨by simp [madeCells],fun i hi j v hv=>?_⟩;rw [if_neg (Nat.not_lt_zero _)] at hv;have hj:j < 13:=(List.getElem?_eq_some_iff.1 hv).1;have e:(i*13+j) % 13=j:=by omega
 simp only [madeCells,Array.toList_map,Array.toList_range,List.getElem?_map,List.getElem?_range (show i*13+j < n*13 by omega),Option.map_some];rw [show ((thZ d_z).toArray).size=13 from rfl,e,getElem!_def,List.getElem?_toArray,hv]
theorem t_s {n k:Nat} {starts:List Int} {TC:List Value} {s:Int} (h:Ths n k starts TC) (hk:k < n) (hs:starts.getD k 0=s):Ths n (k+1) starts (TC.set (k*13) (.int .i64 s)):=by
 refine ⟨by rw [List.length_set];exact h.1,fun i hi j v hv=>?_⟩;have hj:j < 13:=(List.getElem?_eq_some_iff.1 hv).1
 by_cases hik:i=k
 ·subst hik;rw [if_pos (Nat.lt_succ_self _),hs] at hv
  cases j with
  | zero =>
   rw [Nat.add_zero,List.getElem?_set_self (by have:=h.1;omega)];exact hv
  | succ j =>
   rw [List.getElem?_set_ne (by omega)];refine h.2 i hi (j+1) v ?_;rw [if_neg (Nat.lt_irrefl _)];exact hv
 ·rw [List.getElem?_set_ne (by omega)];refine h.2 i hi j v ?_
  by_cases h1:i < k
  ·rw [if_pos h1];rwa [if_pos (by omega)] at hv
  ·rw [if_neg h1];rwa [if_neg (by omega)] at hv
theorem t_q {Q:Nat→Prop} {w:World} {n:Nat} {starts:List Int} {TC:List Value} (h:Ths n n starts TC) (hl:starts.length=n):d_p repTh Q w TC (starts.map atT):=by
 refine g_e (by rw [h.1,List.length_map,hl];rfl) (fun i y hy=>?_);rw [List.getElem?_map] at hy;obtain ⟨s,hs,rfl⟩:=Option.map_eq_some_iff.1 hy;have hi:i < n:=by have:=(List.getElem?_eq_some_iff.1 hs).1;omega
 refine ⟨_,⟨none,0,none,0,rfl,s_h s⟩,fun j v hv=>h.2 i hi j v ?_⟩;rw [if_pos hi,List.getD_eq_getElem?_getD,hs];exact hv
def h_N (code:List Ins) (starts ws ts:List Int) (D:Int):Int:=if b_U code=true then (if e_J ws ts starts.length D=0 then (if starts.all (fun s=>decide (0≤s∧s≤code.length))=true then 0 else 3) else e_J ws ts starts.length D) else 1
def m_2 (code:List Ins) (starts ws ts:List Int) (D:Int):Wo:=if h_N code starts ws ts D=0 then l_b code starts ws ts D else zWo
theorem e_x {code:List Ins} {starts ws ts:List Int} {D E:Int} {w w':World} {v:Value} (hE:h_N code starts ws ts D=E) (h0:E≠0) (hv:v=.tuple #[.agg woZ.toArray,.int .i64 E]) (hb:Below w.heap.size w w'):i_x (m_2 code starts ws ts D) E w (.returned v) w':=by
 subst hv;rw [m_2,if_neg (by rw [hE];exact h0)];exact ⟨u_T,rfl,m_h,hb⟩
theorem m_4 {ws ts:List Int} {k D:Int} (h:e_J ws ts k D=0):d_g ws ts=true∧c_f k D=true:=by
 unfold e_J at h
 split at h
 ·rename_i h1
  split at h
  ·rename_i h2;exact ⟨h1,h2⟩
  ·omega
 ·omega
theorem g_E {Q Q':Nat→Prop} {w w':World}:∀ {is:List Ins} {cs:List Value},d_p repIns Q w cs is→d_p repIns Q' w' cs is
 | [],_,h=>h
 | _::_,_,⟨c,d,e,h1,h2⟩=>⟨c,d,e,h1,g_E h2⟩
theorem l_N {S:Nat→Prop} {w w1:World} {p:Addr} {v:Value} (h:Bel S w w1) (hv:w.cell? p=some v) (hn:¬ S p.block):w1.cell? p=some v:=(World.cell?_of_block (h.block p.block (b_Q hv) hn)).trans hv
theorem p_j {w:World} {A B:Nat} {e:TypeId} {sz n:Nat} {v:Value} {cs:List Value} (hAB:A≤B) (h:w.ownsRow B e sz v n cs):w.ownsRow A e sz v n cs:=by
 obtain ⟨h1,h2 | ⟨g,cap,cur,a,b,c⟩⟩:=h
 ·exact ⟨h1,.inl h2⟩
 ·exact ⟨h1,.inr ⟨g,cap,cur,a,Nat.le_trans hAB b,c⟩⟩
def q_g (h lo T k:Nat) (L M:WoL) (D:Int) (ccs:List Value):b_v:=[isV 0 (.slice L.co.a L.co.n L.co.c),([1],fun vz w=>∃ x c,vz=[.slice x L.co.n c]∧Cap x L.co.n c∧w.ownsRow lo 66 4 (.slice x L.co.n c) L.co.n ccs),isV 2 (.agg #[.slice M.ws.a M.ws.n M.ws.c,.slice M.ts.a M.ts.n M.ts.c,.int .i64 D,.slice M.bs.a M.bs.n M.bs.c]),isV 3 (.slice (some ⟨T,0,none⟩) k k),([1,4],fun vz _=>∃ x c,vz=[.slice x L.co.n c,.agg #[.slice x L.co.n c,.slice M.ws.a M.ws.n M.ws.c,.slice M.ts.a M.ts.n M.ts.c,.int .i64 D,.slice M.bs.a M.bs.n M.bs.c,.slice (some ⟨T,0,none⟩) k k,.slice none 0 0]]),([4],fun vz w=>∃ x c,vz=[.agg #[.slice x L.co.n c,.slice M.ws.a M.ws.n M.ws.c,.slice M.ts.a M.ts.n M.ts.c,.int .i64 D,.slice M.bs.a M.bs.n M.bs.c,.slice (some ⟨T,0,none⟩) k k,.slice none 0 0]]∧a_p w (h+1) [.slice x L.co.n c,.slice M.ws.a M.ws.n M.ws.c,.slice M.ts.a M.ts.n M.ts.c,.int .i64 D,.slice M.bs.a M.bs.n M.bs.c,.slice (some ⟨T,0,none⟩) k k,.slice none 0 0]),isV 6 (.int .i64 0)]
theorem o_x (h lo T k:Nat) (L M:WoL) (D:Int) (ccs:List Value):c_q (q_g h lo T k  L M  D  ccs ):=a_d<|a_w (fun _ _ _ hb h=>by obtain ⟨x,c,h1,h2,h3⟩:=h;exact ⟨x,c,h1,h2,b_a h3 hb⟩)<|a_d<|a_d<|a_w (fun _ _ _ _ h=>h)<|a_w (fun _ _ _ hb h=>by obtain ⟨x,c,h1,h2⟩:=h;exact ⟨x,c,h1,a_h hb h2⟩)<|a_d<|b_B
theorem q_I (h lo T k:Nat) (L M:WoL) (D:Int) (ccs:List Value):∀ jz args wz wz',jz≠1→jz≠5→b_E (q_g h lo T k  L M  D  ccs ) jz args wz→b_E (q_g h lo T k  L M  D  ccs ) jz args wz':=by
 intro jz args wz wz' n0 n1 h
 match jz with
 | 0=>exact h
 | 1=>exact absurd rfl n0
 | 2=>exact h
 | 3=>exact h
 | 4=>exact h
 | 5=>exact absurd rfl n1
 | 6=>exact h
 | _+7=>exact trivial
theorem l_r (L:WoL) (code:List Ins) (ws ts starts:List Int) (D:Int) (sa:Option Addr) (sn sc:Nat) (w:World) (C:Vs repIns Any w L.co.a L.co.n code) (hc:L.co.ok) (W1:SlP Any w L.ws.a L.ws.n ws) (T1:SlP Any w L.ts.a L.ts.n ts) (S:Sl w sa sn starts) (G:Glob w) :
  Calls Tryz.prog 9 #[.slice L.co.a L.co.n L.co.c,.slice sa sn sc,.agg #[.slice L.ws.a L.ws.n L.ws.c,.slice L.ts.a L.ts.n L.ts.c],.int .i64 D] w (i_x (m_2 code starts ws ts D) (h_N code starts ws ts D) w):=by
 have HSL:=hid (show starts.length=sn from S.1);have HCL:=hid (show code.length=L.co.n from C.1);obtain ⟨W,hW⟩:=nm ((w.alloc (Obj.cells #[.slice L.ws.a L.ws.n L.ws.c,.slice L.ts.a L.ts.n L.ts.c] 26)).alloc (Obj.cells woZ.toArray 33));have HM:=N99;have HZ:=N64;have HB:=N3;have HSZ:=N43;have ⟨HW,HCO,HWS,HTS,HS,HG,HCC⟩:=hh7 hW C W1 T1 S G hc;obtain ⟨E',hE'⟩:∃ E,h_N code starts ws ts D=E:=⟨_,rfl⟩;rw [hE'];have HE':=hid hE';obtain ⟨Y,hY⟩:=mn (m_2 code starts ws ts D);rw [hY];have HY:=hid hY;have h0:=g_A L.co.a L.co.n L.co.c code W (a_B (a_C HB.out) C) (by have h:=hc;unfold Sp.ok Cap at h;omega) (G.B HB.out);clear hW C W1 T1 S hc G hE' hY
 go_enter Tryz.func9,Tryz.ntmps9
 go_upto_region 1 with fail
 rw [←HW.out]
 cases hrc:b_U code with
 | false =>
  rw [hrc] at h0;have HC:=hid h0;have HEV:=hid (show E'=1 by rw [←HE'.out,h_N,hrc,if_neg (by decide)]);clear h0 hrc
  go_wp2_with fail
  refine HC.out.mono ?_;clear HC;rintro e1 w1 ⟨rfl,hb1⟩;have HB1:=hid (a_a HB.out hb1);have HZ1:=hid (a_h hb1 HZ.out);clear hb1
  go_wp2_with (refine a_c rfl 33 _ _ rfl (w.heap.size+1) woZ.toArray rfl rfl _ HZ1.out rfl (by kernel_rfl) (by simp [Value.oneCell']) ?_;intro V HV)
  refine a_m ⟨w.heap.size+1,0,none⟩ rfl rfl rfl (a_E (show a_p V (w.heap.size+1) woZ by rw [HV.out];exact a_q HZ1.out rfl) 33 Tryz.underlying33 rfl (by kernel_rfl)) ?_;rw [←HY.out];exact e_x HE'.out (by rw [HEV.out];decide) (by rw [HEV.out];rfl) (by rw [HV.out];exact a_g (by omega) HB1.out)
 | true =>
  rw [hrc] at h0;have ⟨HC,HRC⟩:=hh2 h0 hrc;clear h0 hrc
  go_upto_region 3 with fail
  refine HC.out.mono ?_;clear HC;rintro e1 w1 ⟨rfl,hb1⟩;have HB1:=hid (a_a HB.out hb1);have HZ1:=hid (a_h hb1 HZ.out);have HM1:=hid (a_h hb1 HM.out);have HS1:=hid (show w.heap.size+2≤w1.heap.size by have:=hb1.size;have:=HSZ.out;omega);clear hb1;have h0:=n_r L.ws.a L.ts.a L.ws.n L.ws.c L.ts.n L.ts.c ws ts sn D w1 (slB HB1.out HWS.out.sl) (slB HB1.out HTS.out.sl);have HC:=hid h0;clear h0;obtain ⟨m0,-⟩:=HM1.out 0 _ rfl;obtain ⟨m1,-⟩:=HM1.out 1 _ rfl
  go_wp2_with fail
  refine HC.out.mono ?_;clear HC m0 m1;rintro e2 w2 ⟨a,na,ca,a',na',ca',q,ql,qd,rfl,F1,F2,F3,hb2⟩;have HB2:=hid (a_a HB1.out hb2);have HZ2:=hid (a_h hb2 HZ1.out);have HS2:=hid (show w.heap.size+2≤w2.heap.size by have:=hb2.size;have:=HS1.out;omega);have HF:=hid (And.intro F1 (And.intro F2 F3));clear hb2 F1 F2 F3;obtain ⟨E2,hE2⟩:=mn (e_J ws ts sn D);obtain ⟨D2,hD2⟩:=mn (m_3 ws ts sn D);rw [hE2,hD2];have ⟨HE2,HD2⟩:=hh2 hE2 hD2;clear hE2 hD2
  go_upto_region 4 with (refine a_c rfl 30 _ _ rfl w2.heap.size #[.slice a na ca,.slice a' na' ca',.int .i64 D2,.slice q ql qd] rfl rfl _ (a_e [.slice none 0 0,.slice none 0 0,.int .i64 0,.slice none 0 0] w2.heap.size rfl) rfl (by kernel_rfl) (by simp [Value.oneCell']) ?_;intro U HU)
  have HTU:=hid (show a_p U w2.heap.size [.slice a na ca,.slice a' na' ca',.int .i64 D2,.slice q ql qd] by rw [HU.out];exact a_q (a_e [.slice none 0 0,.slice none 0 0,.int .i64 0,.slice none 0 0] _ rfl) rfl);have HBU:=hid (show Below w.heap.size w U by rw [HU.out];exact a_g HB2.out.size (HB2.out.alloc HB2.out.size _));have HZU:=N175;have HSU:=hid (show U.heap.size=w2.heap.size+1 by rw [HU.out,a_O];simp);have HKU:=hid (show Kept (fun b=>w1.heap.size≤b∧b < w2.heap.size) w2 U by rw [HU.out];exact a_3 (e_h _ _) (a_u (fun b hb=>by omega)));clear HU
  by_cases h0:E2=0
  ·obtain ⟨hm,hs⟩:=m_4 (HE2.out.trans h0);simp only [c_f,decide_eq_true_eq] at hs;have HN:=hid (show sn≤8 by omega);have HT:=hid (o_1 hm (by simp only [c_f,decide_eq_true_eq];exact hs));clear hm hs;subst h0;have hmk:∀ w':World,(Instr.makeSlice 24 (.int .i64 sn) (.int .i64 sn)).run Tryz.prog w'=.ok (.slice (some ⟨w'.heap.size,0,none⟩) sn sn) (w'.alloc (.cells (madeCells (thZ d_z).toArray (sn*13)) 46)):=fun w'=>q_Y sn (by have:=HN.out;omega) w'
   obtain ⟨V,hV⟩:=nm (U.alloc (.cells (madeCells (thZ d_z).toArray (sn*13)) 46));have HVV:=hid (show a_p V U.heap.size (madeCells (thZ d_z).toArray (sn*13)).toList by rw [hV];exact a_e (madeCells (thZ d_z).toArray (sn*13)).toList _ rfl);have HBV:=hid (show Below U.heap.size U V by rw [hV];go_grown);have HSV:=hid (show V.heap.size=U.heap.size+1 by rw [hV];simp);have HV:=hid hV;clear hV
   go_upto_region 7 with fail
   rw [←HV.out];obtain ⟨T,hT⟩:=mn (U.heap.size);have HTT:=hid hT;rw [hT] at HVV ⊢;clear hT hmk
   go_wp2_with fail
   go_loopw [36] (fun i wr=>∃ (k:Nat) (TC:List Value),k≤sn∧i=.int .i64 k∧Hid (a_p wr T TC)∧Hid (Ths sn k starts TC)∧Hid (∀ i,i < k→0≤starts.getD i 0∧starts.getD i 0≤L.co.n)∧Hid (Bel (fun c=>c=T) V wr)) (fun i _=>sn - (intOf i).toNat)
   case atStart=>exact ⟨0,_,Nat.zero_le _,rfl,HVV.out,t_r _ _,fun i hi=>absurd hi (Nat.not_lt_zero _),d_r (Below.refl _ _)⟩
   case round =>
    obtain ⟨k,TC,hk,rfl,hvt,hth,hin,hbe⟩:=hrel;have HBX:=hid (show Below w.heap.size w V from HBU.out.trans (HBV.out.mono HBU.out.size));have HBR:=hid (show Below w.heap.size w wr from HBX.out.trans (hbe.out.below (fun c hc=>by have:=HTT.out;have:=HBU.out.size;omega) HBX.out.size));have HZR:=hid (hbe.out.varN (fun e=>by have:=HTT.out;have:=HSU.out;have:=HS2.out;omega) (a_h HBV.out HZU.out));have HTR:=hid (hbe.out.varN (fun e=>by have:=HTT.out;have:=HSU.out;omega) (a_h HBV.out HTU.out))
    by_cases hlt:k < sn
    ·obtain ⟨b,o,rfl,hrow⟩:=HS.out.2.resolve_left (by omega);obtain ⟨s,hs⟩:=mn (starts.getD k 0);have hk2:k < starts.length:=by have:=HSL.out;omega
     have hc:=a_t HBR.out (hrow k hk2);rw [hs] at hc;have HSS:=hid hs;have i1:(0:Int)≤k:=by omega
     have i2:(k:Int) < sn:=by omega
     have hwk:=N222;have hl:k*13 < TC.length:=by rw [hth.out.1];omega
     obtain ⟨zz,zf⟩:=hvt.out (k*13) _ (List.getElem?_eq_getElem hl);clear hrow hs
     by_cases h1:0≤s
     ·by_cases h2:s≤L.co.n
      ·have n1:¬ s < 0:=by omega
       have n2:¬ (L.co.n:Int) < s:=by omega
       go_wp2_with fail
       go_roundw
       case rel=>exact ⟨k+1,_,by omega,by go_num,a_y hvt.out (k*13) hl (.int .i64 s),t_s hth.out hlt HSS.out,fun i hi=>by
        rcases Nat.lt_succ_iff_lt_or_eq.1 hi with h | rfl
        ·exact hin.out i h
        ·rw [HSS.out];exact ⟨h1,h2⟩,hbe.out.setCell (p:=⟨T,k*13,none⟩) rfl _⟩
       case measure=>rw [hwk];simp only [intOf];omega
      ·have n1:¬ s < 0:=by omega
       have n2:(L.co.n:Int) < s:=by omega
       exact J32
     ·have n1:s < 0:=by omega
      exact J32
    ·obtain rfl:k=sn:=by omega
     obtain ⟨M,hM⟩:∃ M:WoL,M=⟨zSp,⟨a,na,ca⟩,⟨a',na',ca'⟩,⟨q,ql,qd⟩,⟨some ⟨T,0,none⟩,k,k⟩,zSp⟩:=⟨_,rfl⟩;have HMM:=hid hM;obtain ⟨ccs,hc1,hc2⟩:=h_G (c_S HCO.out);have HTL:=hid (show w.heap.size+2≤T by have:=HTT.out;have:=HSU.out;have:=HS2.out;omega);have HVR:=hid hvt.out;have HFT:=hid (show ∀ w',d_p repTh (fun b=>w.heap.size≤b) w' TC (starts.map atT) from fun w'=>t_q hth.out HSL.out);have HDD:=hid (show D2=D from HD2.out.symm.trans HT.out.2.2.2.1)
     have HFW:=hid (show SlP (fun b=>w.heap.size+2≤b) wr M.ws.a M.ws.n ws∧SlP (fun b=>w.heap.size+2≤b) wr M.ts.a M.ts.n ts∧BlP (fun b=>w.heap.size+2≤b) wr M.bs.a M.bs.n (List.replicate starts.length []) from by
      obtain ⟨f1,f2,f3⟩:=HF.out;obtain ⟨-,t1,t2,-,t4⟩:=HT.out;rw [t1] at f1;rw [t2] at f2;rw [t4,Int.toNat_natCast] at f3;have hs1:=HS1.out;have k1:Kept (fun b=>w1.heap.size≤b∧b < w2.heap.size) w2 wr:=a_3 HKU.out (a_3 (c_r HBV.out (fun b h=>by have:=HSU.out;have:=h.2;omega)) (c_r (F:=T) (hbe.out.below (fun c hc=>by omega) (by have:=HTT.out;have:=HBV.out.size;omega)) (fun b h=>by have:=HTT.out;have:=HSU.out;have:=h.2;omega)));rw [hM,HSL.out];exact ⟨a_n (fun b h=>by have:=h.1;omega) (a_r k1 (d_Y (fun b q h=>⟨q,h⟩) (c_M (fun b h=>h) f1))),a_n (fun b h=>by have:=h.1;omega) (a_r k1 (d_Y (fun b q h=>⟨q,h⟩) (c_M (fun b h=>h) f2))),a_H (fun b h=>by have:=h.1;omega) (a_G k1 (g_b (fun b q h=>⟨q,h⟩) f3))⟩)
     have HEV:=hid (show E'=0 by
      have e2:=HE2.out;rw [←HSL.out] at e2;rw [←HE'.out,h_N,if_pos HRC.out,if_pos e2,if_pos];refine List.all_eq_true.2 (fun s hs=>?_);obtain ⟨i,hi,rfl⟩:=List.getElem_of_mem hs;have h:=hin.out i (by have:=HSL.out;omega);rw [List.getD_eq_getElem?_getD,List.getElem?_eq_getElem hi] at h;exact decide_eq_true (by rw [HCL.out];exact h))
     have HFC:=hid (b_n (c_r HBR.out (fun _ h=>h.2)) hc1);have HCLN:=hid (show ∀ w',Bel (fun c=>c=w.heap.size+1) wr w'→Calls Tryz.prog 32 #[.slice L.co.a L.co.n L.co.c] w' (g_X 66 4 L.co.n ccs w') from fun w' hw'=>g_D L.co.a L.co.n L.co.c ccs w' (by rw [b_f hc1,HCL.out];rfl) (fun p hp j u hu=>l_N hw' (a_t HBR.out (hc2 p hp j u hu)) (by have h:=b_Q (hc2 p hp j u hu);show ¬ (p.add j).block=w.heap.size+1;omega)) (e_T hc1) (fun e=>by have h:=HCC.out;unfold Sp.ok Cap at h;have:=h.2.2 e;omega) (by have:=(d_t HRC.out).1;have:=HCL.out;omega));have HTE:=hid (show a_p wr w2.heap.size [.slice M.ws.a M.ws.n M.ws.c,.slice M.ts.a M.ts.n M.ts.c,.int .i64 D2,.slice M.bs.a M.bs.n M.bs.c] by rw [hM];exact HTR.out);have HGN:=hid (show ¬ (w2.heap.size=w.heap.size+1) by have:=HS2.out;omega);have HLO:=hid (show w.heap.size+1 < wr.heap.size by have:=a_N HZR.out (by simp);omega);have hG:=o_x w.heap.size wr.heap.size T k L M D2 ccs;clear hvt hc1 hc2 hlt hbe hM hth hin
     go_upto_region 14 with fail
     refine d_K [some 56,some 57,some 58,some 59,some 60,none,some 9] (fun w'=>Bel (fun c=>c=w.heap.size+1) wr w'∧∃ cs,cs.length=7∧a_p w' (w.heap.size+1) cs) (q_g w.heap.size wr.heap.size T k L M D2 ccs) 100 100 (fun _ _ _=>True) (by kernel_rfl) (by kernel_rfl) (by decide) rfl (⟨d_r ((Below.refl _ _).drew),_,rfl,a_h ((Below.refl _ _).drew) HZR.out⟩) ?_ ?_
     ·show StepsL _ _ _ _ _ _ _
      refine InvD.c (fun _ _ w1 C _ hK=>oR C hK (h:=by simp [execOp,go_sem,C.o 0 (.slice L.co.a L.co.n L.co.c)])) ?_;refine InvD.c (fun a1 vals w1 C K hK=>?_) ?_
      ·have e0:=C.i 0;rw [a_P] at e0;refine a_i rfl (a_Q _ _ _ rfl 32 rfl [.slice L.co.a L.co.n L.co.c] (by simp only [List.map_cons,List.map_nil,e0]) (by kernel_rfl) ((HCLN.out w1 C.base.1).mono ?_));rintro e9 w2x ⟨x,c,rfl,hcap,how,hb2⟩;refine ⟨_,rfl,hK _ w2x ⟨x,c,rfl,hcap,p_j C.base.1.size how⟩ ⟨C.base.1.andB hb2,C.base.2.elim fun cs h=>⟨cs,h.1,a_h hb2 h.2⟩⟩ (fun j _ h=>hG j _ _ _ hb2 h) (fun _ _ _=>trivial) (fun _ _ _=>trivial) (fun _ _ _=>trivial) (fun _ _=>trivial)⟩
      refine InvD.c (fun a1 vals w1 C K hK=>?_) ?_
      ·have e0:=C.o 10 (.pointer (some ⟨w2.heap.size,0,none⟩));exact a_i rfl (wp_load_mid 30 _ rfl (w2.heap.size) (0) ((a_P a1 _).symm.trans e0) [.slice M.ws.a M.ws.n M.ws.c,.slice M.ts.a M.ts.n M.ts.c,.int .i64 D2,.slice M.bs.a M.bs.n M.bs.c] _ (a_f (C.base.1.varN HGN.out HTE.out)) Tryz.underlying30 rfl (by kernel_rfl) (d_e hK C rfl rfl))
      refine InvD.c (fun _ _ w1 C _ hK=>oR C hK (h:=by simp [execOp,go_sem,C.o 12 (.slice (some ⟨T,0,none⟩) k k)])) ?_;refine InvD.c (fun a1 vals w1 C K hK=>?_) ?_
      ·have e1:=C.t 1 57 rfl rfl;have e2:=C.i 2;have e3:=C.i 3;obtain ⟨x,c,h1,-⟩:=C.says 1 rfl;have h1:vals 1=.slice x L.co.n c:=List.head_eq_of_cons_eq h1;rw [h1] at e1;refine a_i rfl (a_A (v:=.agg #[.slice x L.co.n c,.slice M.ws.a M.ws.n M.ws.c,.slice M.ts.a M.ts.n M.ts.c,.int .i64 D2,.slice M.bs.a M.bs.n M.bs.c,.slice (some ⟨T,0,none⟩) k k,.slice none 0 0]) ?_ (d_e hK C rfl ⟨x,c,by show [vals 1,_]=_;rw [h1];rfl⟩));simp [execOp,go_sem,e1,e2,e3]
      refine InvD.c (fun a1 vals w1 C K hK=>?_) ?_
      ·have e0:a1.eval (.tmp 8)=.pointer (some ⟨w.heap.size+1,0,none⟩):=C.old 8 rfl;have e1:=C.v 4 60 rfl rfl;obtain ⟨x,c,h1⟩:=C.says 4 rfl;have h2:vals 4=.agg #[.slice x L.co.n c,.slice M.ws.a M.ws.n M.ws.c,.slice M.ts.a M.ts.n M.ts.c,.int .i64 D2,.slice M.bs.a M.bs.n M.bs.c,.slice (some ⟨T,0,none⟩) k k,.slice none 0 0]:=List.head_eq_of_cons_eq (List.tail_eq_of_cons_eq h1);rw [h2] at e1;obtain ⟨xs,hx1,hx2⟩:=C.base.2;refine a_i rfl (a_7 33 _ _ rfl (w.heap.size+1) #[.slice x L.co.n c,.slice M.ws.a M.ws.n M.ws.c,.slice M.ts.a M.ts.n M.ts.c,.int .i64 D2,.slice M.bs.a M.bs.n M.bs.c,.slice (some ⟨T,0,none⟩) k k,.slice none 0 0] e0 e1 xs hx2 (by rw [hx1];rfl) (by kernel_rfl) (by simp [Value.oneCell']) ?_);intro U HU;have hUx:a_p U (w.heap.size+1) [.slice x L.co.n c,.slice M.ws.a M.ws.n M.ws.c,.slice M.ts.a M.ts.n M.ts.c,.int .i64 D2,.slice M.bs.a M.bs.n M.bs.c,.slice (some ⟨T,0,none⟩) k k,.slice none 0 0]:=by rw [HU.out];exact a_q hx2 (by rw [hx1];rfl)
       refine hK _ U ⟨x,c,by show [vals 4]=_;rw [h2],hUx⟩ ⟨by rw [HU.out];exact e_q (S:=fun c=>c=w.heap.size+1) rfl C.base.1,_,rfl,hUx⟩ (fun jz hj h=>?_) (fun _ _ _=>trivial) (fun _ _ _=>trivial) (fun _ _ _=>trivial) (fun _ _=>trivial)
       by_cases j1:jz=1
       ·subst j1;obtain ⟨x,c,q1,q2,q3⟩:=h;exact ⟨x,c,q1,q2,by rw [HU.out];exact a_0 (fun e=>by have:=(b_b q3 e).1;have:=HLO.out;omega) q3⟩
       ·exact q_I _ _ _ _ _ _ _ _ _ _ _ _ j1 hj h
      refine InvD.c (fun a1 vals w1 C K hK=>?_) ?_
      ·refine a_i rfl (a_A (v:=.int .i64 0) ?_ (d_e hK C rfl rfl));simp [execOp,go_sem,]
      exact StepsL.nil
     ·intro vals w1 hb hv hbo;obtain ⟨x,c,a1,a2,a3⟩:=c_i rfl (hv 1 (by decide));obtain ⟨x2,c2,b1⟩:=c_i rfl (hv 4 (by decide));obtain ⟨x3,c3,d1,d2⟩:=c_i rfl (hv 5 (by decide));have y6:vals 6=.int .i64 0:=List.head_eq_of_cons_eq (hv 6 (by decide));have a1:vals 1=.slice x L.co.n c:=List.head_eq_of_cons_eq a1;have b2:vals 4=_:=List.head_eq_of_cons_eq (List.tail_eq_of_cons_eq b1);have b1:vals 1=_:=List.head_eq_of_cons_eq b1;have d1:vals 4=_:=List.head_eq_of_cons_eq d1;rw [a1] at b1;rw [b2] at d1
      cases b1
      simp only [Value.agg.injEq,Array.mk.injEq,List.cons.injEq,Value.slice.injEq] at d1;obtain ⟨⟨rfl,-,rfl⟩,-⟩:=d1;simp only [c_N,Act.put,sA,sB,sC,y6];have HX:=hid d2;have HB9:=hid (show Below w.heap.size w w1 from HBR.out.trans (hb.1.below (fun c hc=>by omega) HBR.out.size));have HK9:=hid (show Kept (fun b=>w.heap.size+2≤b) wr w1 from fun b o v hq hv=>l_N hb.1 hv (by show ¬ b=w.heap.size+1;omega));have HVT:=hid (show a_p w1 T TC from hb.1.varN (by have:=HTL.out;omega) HVR.out)
      have HRW:=hid (show RWo (fun b=>w.heap.size≤b) w1 ⟨⟨x,L.co.n,c⟩,M.ws,M.ts,M.bs,⟨some ⟨T,0,none⟩,k,k⟩,zSp⟩ (l_b code starts ws ts D) from by
       have T1:=j_c (Q:=fun b=>w.heap.size≤b) HVT.out (HFT.out w1) (by have:=HTL.out;omega);rw [List.length_map,HSL.out] at T1;exact ⟨p_l a3 (g_E HFC.out) HCL.out (fun q h=>by have:=(b_b a3 h).1;have:=HLO.out;omega),a_n (fun b h=>by omega) (a_r HK9.out HFW.out.1),a_n (fun b h=>by omega) (a_r HK9.out HFW.out.2.1),a_H (fun b h=>by omega) (a_G HK9.out HFW.out.2.2),T1,d_h,a2,⟨Nat.le_refl _,by have:=HN.out;show k≤_;omega,fun e=>by cases e⟩,b_W⟩)
      clear hb hv hbo y6 d2 a1 a2 a3 b2 b1 hG
      go_wp2_with fail
      refine a_m ⟨w.heap.size+1,0,none⟩ rfl rfl rfl (a_E HX.out 33 Tryz.underlying33 rfl (by kernel_rfl)) ?_;have HYN:=HY.out;rw [m_2,if_pos (HE'.out.trans HEV.out)] at HYN;subst HYN;exact ⟨_,by rw [HEV.out,HDD.out];rfl,HRW.out,HB9.out⟩
  ·have hb:(E2 != 0)=true:=by simpa using h0
   have HEV:=hid (show E'=E2 by
    have e2:=HE2.out;rw [←HSL.out] at e2;rw [←HE'.out,h_N,if_pos HRC.out,if_neg (by rw [e2];exact h0)];exact e2)
   have H0:=hid h0;clear h0
   go_wp2_with (refine a_c rfl 33 _ _ rfl (w.heap.size+1) woZ.toArray rfl rfl _ HZU.out rfl (by kernel_rfl) (by simp [Value.oneCell']) ?_;intro Z HZZ)
   refine a_m ⟨w.heap.size+1,0,none⟩ rfl rfl rfl (a_E (show a_p Z (w.heap.size+1) woZ by rw [HZZ.out];exact a_q HZU.out rfl) 33 Tryz.underlying33 rfl (by kernel_rfl)) ?_;rw [←HY.out];exact e_x HE'.out (by rw [HEV.out];exact H0.out) (by rw [HEV.out];rfl) (by rw [HZZ.out];exact a_g (by omega) HBU.out)
def s_u (h:Nat) (a a':Option Addr) (n n' c c' m m':Nat):b_v:=[isV 0 (.slice a n c),isV 1 (.slice a n c),isV 2 (.int .i64 n),isV 3 (.int .i64 m),isV 4 (.slice a m c),isV 5 (.slice a' n' c'),isV 6 (.slice a' n' c'),isV 7 (.int .i64 n'),isV 8 (.int .i64 m'),isV 9 (.slice a' m' c'),isV 10 (.agg #[.slice a m c,.slice a' m' c']),([],fun _ w=>a_p w h [.slice a m c,.slice a' m' c'])]
theorem q_H (h:Nat) (a a':Option Addr) (n n' c c' m m':Nat):∀ jz args wz wz',jz≠11→b_E (s_u h  a a'  n n' c c' m m' ) jz args wz→b_E (s_u h  a a'  n n' c c' m m' ) jz args wz':=by
 intro jz args wz wz' n0 h
 match jz with
 | 0=>exact h
 | 1=>exact h
 | 2=>exact h
 | 3=>exact h
 | 4=>exact h
 | 5=>exact h
 | 6=>exact h
 | 7=>exact h
 | 8=>exact h
 | 9=>exact h
 | 10=>exact h
 | 11=>exact absurd rfl n0
 | _+12=>exact trivial
theorem q_2 (a a':Option Addr) (n n' c c':Nat) (w:World) (h1:n≤c∧c≤9223372036854775807) (h2:n'≤c'∧c'≤9223372036854775807) :
  Calls Tryz.prog 8 #[.slice a n c,.slice a' n' c'] w (fun e w'=>e=.returned (.agg #[.slice a (min n 170) c,.slice a' (min n' 170) c'])∧Below w.heap.size w w'):=by
 obtain ⟨W,hW⟩:=nm (w.alloc (Obj.cells #[.slice none 0 0,.slice none 0 0] 26));have HZ:=hid (show a_p W w.heap.size [.slice none 0 0,.slice none 0 0] by rw [hW];exact a_e [.slice none 0 0,.slice none 0 0] _ rfl);have HB:=N3;have HW:=hid hW;obtain ⟨m,hm⟩:=mn (min n 170);obtain ⟨m',hm'⟩:∃ m,min n' 170=m:=⟨_,rfl⟩;rw [hm,hm'];have HM1:=hid (show (if (170:Int) < (n:Int) then (170:Int) else (n:Int))=(m:Int) by split <;> omega);have HM2:=hid (show (if (170:Int) < (n':Int) then (170:Int) else (n':Int))=(m':Int) by split <;> omega);have i1:m≤c:=by omega
 have i2:m'≤c':=by omega
 clear hW hm hm' h1 h2
 go_enter Tryz.func8,Tryz.ntmps8
 go_upto_region 1 with fail
 rw [←HW.out];refine d_K [some 5,some 6,some 7,some 8,some 9,some 10,some 11,some 12,some 13,some 14,some 15,none] (fun w'=>Bel (fun c=>c=w.heap.size) W w'∧∃ cs,cs.length=2∧a_p w' w.heap.size cs) (s_u w.heap.size a a' n n' c c' m m') 100 100 (fun _ _ _=>True) (by kernel_rfl) (by kernel_rfl) (by decide) rfl (⟨d_r ((Below.refl _ _).drew),_,rfl,a_h ((Below.refl _ _).drew) HZ.out⟩) ?_ ?_
 ·show StepsL _ _ _ _ _ _ _
  refine InvD.c (fun _ _ w1 C _ hK=>oR C hK (h:=by simp [execOp,go_sem,C.o 0 (.slice a n c)])) ?_;refine InvD.c (fun _ _ w1 C _ hK=>oR C hK (h:=by simp [execOp,go_sem,C.o 0 (.slice a n c)])) ?_;refine InvD.c (fun a1 vals w1 C K hK=>?_) ?_
  ·have e0:=C.i 1;refine a_i rfl (a_A (v:=.int .i64 n) ?_ (d_e hK C rfl rfl));simp [go_sem,e0]
  refine InvD.c (fun a1 vals w1 C K hK=>?_) ?_
  ·have e0:=C.i 2;refine a_i rfl (a_A (v:=.int .i64 m) ?_ (d_e hK C rfl rfl));simp [go_sem,e0,HM1.out]
  refine InvD.c (fun _ _ w1 C _ hK=>oR C hK (h:=by simp [execOp,go_sem,C.i 0,C.i 3,i1])) ?_;refine InvD.c (fun _ _ w1 C _ hK=>oR C hK (h:=by simp [execOp,go_sem,C.o 1 (.slice a' n' c')])) ?_;refine InvD.c (fun _ _ w1 C _ hK=>oR C hK (h:=by simp [execOp,go_sem,C.o 1 (.slice a' n' c')])) ?_;refine InvD.c (fun a1 vals w1 C K hK=>?_) ?_
  ·have e0:=C.i 6;refine a_i rfl (a_A (v:=.int .i64 n') ?_ (d_e hK C rfl rfl));simp [go_sem,e0]
  refine InvD.c (fun a1 vals w1 C K hK=>?_) ?_
  ·have e0:=C.i 7;refine a_i rfl (a_A (v:=.int .i64 m') ?_ (d_e hK C rfl rfl));simp [go_sem,e0,HM2.out]
  refine InvD.c (fun _ _ w1 C _ hK=>oR C hK (h:=by simp [execOp,go_sem,C.i 5,C.i 8,i2])) ?_;refine InvD.c (fun _ _ w1 C _ hK=>oR C hK (h:=by simp [execOp,go_sem,C.i 4,C.i 9])) ?_;refine InvD.c (fun a1 vals w1 C K hK=>?_) ?_
  ·have e0:a1.eval (.tmp 4)=.pointer (some ⟨w.heap.size,0,none⟩):=C.old 4 rfl;have e1:=C.i 10;rw [a_P] at e1;obtain ⟨xs,hx1,hx2⟩:=C.base.2;refine a_i rfl (a_7 26 _ _ rfl w.heap.size #[.slice a m c,.slice a' m' c'] e0 e1 xs hx2 (by rw [hx1];rfl) (by kernel_rfl) (by simp [Value.oneCell']) ?_);intro U HU;have hUx:a_p U w.heap.size [.slice a m c,.slice a' m' c']:=by rw [HU.out];exact a_q hx2 (by rw [hx1];rfl)
   exact hK _ U hUx ⟨by rw [HU.out];exact e_q (S:=fun c=>c=w.heap.size) rfl C.base.1,_,rfl,hUx⟩ (fun jz hj h=>q_H _ _ _ _ _ _ _ _ _ _ _ _ _ hj h) (fun _ _ _=>trivial) (fun _ _ _=>trivial) (fun _ _ _=>trivial) (fun _ _=>trivial)
  exact StepsL.nil
 ·intro vals w1 hb hv hbo;have d:=c_i rfl (hv 11 (by decide));have HX:=hid (show a_p w1 w.heap.size [.slice a m c,.slice a' m' c'] from d);have HB9:=hid (show Below w.heap.size w w1 from HB.out.trans (hb.1.below (fun c hc=>by omega) HB.out.size));clear hb hv hbo d i1 i2;simp only [c_N,Act.put,sA,sB,sC]
  go_wp2_with fail
  refine a_X ⟨w.heap.size,0,none⟩ rfl rfl rfl (a_E HX.out 26 Tryz.underlying26 rfl (by kernel_rfl)) ?_;exact ⟨rfl,HB9.out⟩
abbrev al0:Wo:=l_b [(1,1,7,0),(0,0,0,0)] [0] [0] [1] 0
theorem r_U:h_N [(1,1,7,0),(0,0,0,0)] [0] [0] [1] 0=0:=by decide
theorem r_V:m_r al0 0=0:=by decide
theorem t_V:m_r (h_B al0 0) 0=0:=by decide
theorem al_end:(h_B (h_B al0 0) 0).th.length=1∧(thW (h_B (h_B al0 0) 0) 0).st=1∧(thW (h_B (h_B al0 0) 0) 0).r 1=7∧(h_B al0 0).ev.length=0:=by decide
theorem r_W:WfW al0:=by
 refine ⟨fun i hi=>?_,fun z hz=>?_,fun b hb=>?_,fun t ht=>?_⟩
 ·simp only [al0,l_b,List.mem_cons,List.not_mem_nil,or_false] at hi
  rcases hi with rfl | rfl
  ·exact ⟨k_f (by decide) (by decide),k_f (by decide) (by decide),e_b⟩
  ·exact ⟨e_b,e_b,e_b⟩
 ·simp only [al0,l_b,List.mem_cons,List.not_mem_nil,or_false] at hz;rw [hz];exact e_b
 ·have e:b=[]:=List.mem_singleton.1 hb;rw [e];intro p hp;exact absurd hp List.not_mem_nil
 ·have e:t={ d_z with pc:=0 }:=List.mem_singleton.1 ht;rw [e];exact ⟨fun _=>e_b,fun f hf=>by cases hf⟩
theorem t_W:WfW (h_B al0 0):=by rw [h_B,if_pos r_V];exact p_S r_W (by decide)
theorem p_E {w:World} {g:Nat} {z:Int} (h:a_p w g [.int .i64 z]):Sl w (some ⟨g,0,none⟩) 1 [z]:=⟨rfl,.inr ⟨g,0,rfl,fun i hi=>by
 obtain rfl:i=0:=by simpa using hi
 exact (h 0 _ rfl).1⟩⟩
theorem f_9 (w:World) (G:Glob w):Calls Tryz.prog 10 #[] w (b_h true w):=by
 obtain ⟨W,hW⟩:=nm ((((w.alloc (Obj.cells #[.int .i64 1,.int .i64 1,.int .i64 7,.int .i64 0,.int .i64 0,.int .i64 0,.int .i64 0,.int .i64 0] 66)).alloc (Obj.cells #[.int .i64 0] 3)).alloc (Obj.cells #[.int .i64 0] 3)).alloc (Obj.cells #[.int .i64 1] 3));have HB:=N3;have ⟨HW,HG⟩:=hh2 hW G;clear hW G
 go_enter Tryz.func10,Tryz.ntmps10
 go_upto_region 1 with fail
 go_wp2_with fail
 rw [←HW.out];have v0:a_p W w.heap.size [.int .i64 1,.int .i64 1,.int .i64 7,.int .i64 0,.int .i64 0,.int .i64 0,.int .i64 0,.int .i64 0]:=by rw [HW.out];exact a_s _ (a_s _ (a_s _ (a_e [.int .i64 1,.int .i64 1,.int .i64 7,.int .i64 0,.int .i64 0,.int .i64 0,.int .i64 0,.int .i64 0] _ rfl)))
 have v1:a_p W (w.heap.size+1) [.int .i64 0]:=by rw [HW.out];exact a_s _ (a_s _ (a_e [.int .i64 0] _ (by simp)))
 have v2:a_p W (w.heap.size+1+1) [.int .i64 0]:=by rw [HW.out];exact a_s _ (a_e [.int .i64 0] _ (by simp))
 have v3:a_p W (w.heap.size+1+1+1) [.int .i64 1]:=by rw [HW.out];exact a_e [.int .i64 1] _ (by simp)
 have h0:=l_r ⟨⟨some ⟨w.heap.size,0,none⟩,2,2⟩,⟨some ⟨w.heap.size+1+1,0,none⟩,1,1⟩,⟨some ⟨w.heap.size+1+1+1,0,none⟩,1,1⟩,zSp,zSp,zSp⟩ [(1,1,7,0),(0,0,0,0)] [0] [1] [0] 0 (some ⟨w.heap.size+1,0,none⟩) 1 1 W (j_c v0 ⟨d_S (1,1,7,0),d_S (0,0,0,0),rfl,rfl,d_S (0,0,0,0),[],rfl,rfl,rfl⟩ trivial) ⟨Nat.le_refl _,(by show 2≤9223372036854775807;omega),fun e=>by cases e⟩ (s_f (p_E v2)) (s_f (p_E v3)) (p_E v1) (HG.out.B HB.out);rw [r_U,m_2,if_pos r_U] at h0;with_reducible refine h0.mono ?_
 clear h0 v0 v1 v2 v3;rintro e1 w1 ⟨L1,rfl,R1,hb1⟩;obtain ⟨X0,hX0⟩:=nm (l_b [(1,1,7,0),(0,0,0,0)] [0] [0] [1] 0);rw [←hX0] at R1 ⊢;have HX0:=hid (show X0=al0 from hX0);have HB1:=hid (a_a HB.out hb1);have HR1:=hid R1;clear hX0 R1 hb1
 go_upto_region 2 with (refine a_c rfl 33 _ _ rfl w1.heap.size (woC L1 X0.D).toArray rfl rfl _ (a_e woZ w1.heap.size rfl) rfl (by kernel_rfl) (b_p _ _) ?_;intro U HU)
 have HXU:=hid (show a_p U w1.heap.size (woC L1 X0.D) by rw [HU.out];exact a_q (a_e woZ _ rfl) rfl);have HBU0:=hid (show Below w1.heap.size w1 U by rw [HU.out];exact a_g (Nat.le_refl _) ((Below.refl _ _).alloc (Nat.le_refl _) _));have HBU:=hid (a_a HB1.out HBU0.out);have HSU:=hid (show U.heap.size=w1.heap.size+1 by rw [HU.out,a_O];simp);have hR:=c_L (b_q HBU0.out HR1.out);have he:X0.ev.length=0:=by rw [HX0.out];rfl
 have h0:=e_4 L1 X0 0 U hR (HG.out.B HBU.out) (by have:=hR.ev.1;omega) (by rw [HX0.out];exact g_v r_W);rw [show m_r X0 0=0 by rw [HX0.out];exact r_V] at h0;have HC:=hid h0;obtain ⟨X1,hX1⟩:=nm (h_B X0 0);rw [←hX1] at HC;have HX1:=hid hX1;clear HU hR h0 hX1 he
 go_wp2_with (refine wpList_load_mid rfl 33 _ rfl w1.heap.size 0 rfl (woC L1 X0.D) _ (a_f HXU.out) Tryz.underlying33 rfl (by kernel_rfl) ?_)
 refine HC.out.mono ?_;clear HC;rintro e2 w2 ⟨L2,rfl,R2,hb2⟩;have HB2:=hid (a_a HBU.out hb2);have HX2:=hid (a_h hb2 HXU.out);have HR2:=hid R2;have HS2:=N228;clear R2 hb2
 go_upto_region 3 with (refine a_c rfl 33 _ _ rfl w1.heap.size (woC L2 X1.D).toArray rfl rfl _ HX2.out rfl (by kernel_rfl) (b_p _ _) ?_;intro V HV)
 have HXV:=hid (show a_p V w1.heap.size (woC L2 X1.D) by rw [HV.out];exact a_q HX2.out rfl);have HBV:=hid (show Below w.heap.size w V by rw [HV.out];exact a_g HB1.out.size HB2.out);have hR:RWo Any V L2 X1:=c_L (a_z (by rw [HV.out];exact a_u (fun b hb=>by have:=HSU.out;omega)) HR2.out);have he:X1.ev.length=0:=by rw [HX1.out,HX0.out];exact al_end.2.2.2
 have h0:=e_4 L2 X1 0 V hR (HG.out.B HBV.out) (by have:=hR.ev.1;omega) (by rw [HX1.out,HX0.out];exact g_v t_W);rw [show m_r X1 0=0 by rw [HX1.out,HX0.out];exact t_V] at h0;have HC:=hid h0;obtain ⟨X2,hX2⟩:=nm (h_B X1 0);rw [←hX2] at HC;have HX2':=hid hX2;have HSV:=hid (show w1.heap.size+1≤V.heap.size by rw [HV.out,a_O];exact HS2.out);clear HV hR h0 hX2 he
 go_wp2_with (refine wpList_load_mid rfl 33 _ rfl w1.heap.size 0 rfl (woC L2 X1.D) _ (a_f HXV.out) Tryz.underlying33 rfl (by kernel_rfl) ?_)
 refine HC.out.mono ?_;clear HC;rintro e3 w3 ⟨L3,rfl,R3,hb3⟩;have HB3:=hid (a_a HBV.out hb3);have HX3:=hid (a_h hb3 HXV.out);have HR3:=hid R3;clear R3 hb3
 go_upto_region 4 with (refine a_c rfl 33 _ _ rfl w1.heap.size (woC L3 X2.D).toArray rfl rfl _ HX3.out rfl (by kernel_rfl) (b_p _ _) ?_;intro Y HY)
 have HXY:=hid (show a_p Y w1.heap.size (woC L3 X2.D) by rw [HY.out];exact a_q HX3.out rfl);have HBY:=hid (show Below w.heap.size w Y by rw [HY.out];exact a_g HB1.out.size HB3.out);have hR:RWo Any Y L3 X2:=c_L (a_z (by rw [HY.out];exact a_u (fun b hb=>by have:=HSV.out;omega)) HR3.out);have HE:=al_end;rw [←HX0.out,←HX1.out,←HX2'.out] at HE;obtain ⟨z1,z2,z3,-⟩:=HE;have hn:L3.th.n=1:=by have:=hR.th.1;omega
 obtain ⟨tb,tq,t,ta,tc,qa,qc,htl,htt,-,TQ,hr⟩:=c_3 hR.th (k:=0) (by omega);have htw:thW X2 0=t:=by rw [thW,List.getD_eq_getElem?_getD,htt];rfl
 rw [htw] at z2 z3;obtain ⟨x5,-⟩:=HXY.out 5 _ rfl;have c10:=hr 10 _ rfl;have c2:=hr 2 _ rfl;rw [z2] at c10;rw [z3] at c2;rw [htl,hn] at x5;clear HY hR htw htt TQ hr z1 z2 z3
 go_wp2_with fail
 go_ret
 exact ⟨rfl,HBY.out⟩
end Go.Proofs.YtogdpojnbgeknaaGreatDoor
