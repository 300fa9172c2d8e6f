import Derived.Test.YtogdpojnbgeknaaGreatDoorRows
import Derived.WalkKit
import Derived.ProofKit
import Derived.Handy
import Derived.Lib.Hide
import Derived.Carry
import Derived.Deep.Slices
import Derived.Deep.Strs
import Derived.Laws.IdiomCopy
import Derived.Test.YtogdpojnbgeknaaGreatDoorB0
import Derived.WalkSpells
import Derived.Deep.DeepCutAuto
import Derived.Deep.RegionLaw
set_option maxRecDepth 100000
set_option maxHeartbeats 16000000
namespace Go.Proofs.YtogdpojnbgeknaaGreatDoor.Gen
open Go.ChangeShapes Go.WideShapes Go.ChangeAt Go.RowKit
theorem b_Q {w:World} {a:Addr} {v:Value} (h:w.cell? a=some v):a.block < w.heap.size:=by
 apply Classical.byContradiction
 intro hn;have:w.heap[a.block]?=none:=by simp;omega
 simp [World.cell?,this] at h
def Kept (Q:Nat→Prop) (w w':World):Prop:=∀ (b o:Nat) (v:Value),Q b→w.cell? ⟨b,o,none⟩=some v→w'.cell? ⟨b,o,none⟩=some v
theorem o_G (Q:Nat→Prop) (w:World):Kept Q w w:=fun _ _ _ _ h=>h
theorem a_3 {Q:Nat→Prop} {w w' w2:World} (h:Kept Q w w') (h':Kept Q w' w2):Kept Q w w2:=fun b o v hq hv=>h' b o v hq (h b o v hq hv)
theorem a_C {Q:Nat→Prop} {w w':World} (hb:Below w.heap.size w w'):Kept Q w w':=fun b o v _ h=>by
 rw [hb.cell (p:=⟨b,o,none⟩) (b_Q h)];exact h
theorem e_h {Q:Nat→Prop} (w:World) (o:Obj):Kept Q w (w.alloc o):=fun b k v _ h=>by
 rw [World.cell?_alloc_lt _ _ _ (b_Q h)];exact h
theorem u_c {Q:Nat→Prop} (w:World):Kept Q w w.drew:=fun _ _ _ _ h=>h
theorem a_U {Q:Nat→Prop} (w:World) (p:Addr) (x:Value) (hp:∀ b,Q b→b≠p.block):Kept Q w (w.setCell p x):=fun b o v hq hv=>by
 rw [World.cell?_setCell_other]
 ·exact hv
 ·intro e;exact hp b hq (congrArg Addr.block e).symm
theorem c_r {F:Nat} {Q:Nat→Prop} {w w':World} (hb:Below F w w') (hQ:∀ b,Q b→b < F):Kept Q w w':=fun b o v hq h=>by
 rw [hb.cell (p:=⟨b,o,none⟩) (hQ b hq)];exact h
structure Rep (α:Type) where
 R:(Nat→Prop)→World→List Value→α→Prop
 k:Nat
 pos:0 < k
 len:∀ {Q w cs y},R Q w cs y→cs.length=k
 keep:∀ {Q w w' cs y},Kept Q w w'→R Q w cs y→R Q w' cs y
 mono:∀ {Q Q' w cs y},(∀ b,Q b→Q' b)→R Q w cs y→R Q' w cs y
 und:∀ {Q w cs y},R Q w cs y→R (fun b=>Q b∧b < w.heap.size) w cs y
def At {α:Type} (r:Rep α) (Q:Nat→Prop) (w:World) (b o:Nat) (y:α):Prop:=
 ∃ cs,r.R Q w cs y∧∀ j v,cs[j]?=some v→w.cell? ⟨b,o+j,none⟩=some v
def Vs {α:Type} (r:Rep α) (Q:Nat→Prop) (w:World) (a:Option Addr) (n:Nat) (ys:List α):Prop:=
 ys.length=n∧(n=0∨∃ b o,a=some ⟨b,o,none⟩∧Q b∧∀ i y,ys[i]?=some y→At r Q w b (o+i*r.k) y)
def Any (_:Nat):Prop:=True
section
variable {α:Type} {r:Rep α} {Q Q':Nat→Prop} {w w':World} {a:Option Addr} {n b o:Nat} {ys:List α} {y:α}
theorem n_W (hb:Q b) (hk:Kept Q w w') (h:At r Q w b o y):At r Q w' b o y:=by
 obtain ⟨cs,h1,h2⟩:=h;exact ⟨cs,r.keep hk h1,fun j v hj=>hk _ _ _ hb (h2 j v hj)⟩
theorem s_x (hQ:∀ b,Q b→Q' b) (h:At r Q w b o y):At r Q' w b o y:=by
 obtain ⟨cs,h1,h2⟩:=h;exact ⟨cs,r.mono hQ h1,h2⟩
theorem a_B (hk:Kept Q w w') (h:Vs r Q w a n ys):Vs r Q w' a n ys:=by
 obtain ⟨h1,h2⟩:=h;refine ⟨h1,h2.imp id ?_⟩;rintro ⟨b,o,e,hq,f⟩;exact ⟨b,o,e,hq,fun i y hi=>n_W hq hk (f i y hi)⟩
theorem b_e (hQ:∀ b,Q b→Q' b) (h:Vs r Q w a n ys):Vs r Q' w a n ys:=by
 obtain ⟨h1,h2⟩:=h;refine ⟨h1,h2.imp id ?_⟩;rintro ⟨b,o,e,hq,f⟩;exact ⟨b,o,e,hQ b hq,fun i y hi=>s_x hQ (f i y hi)⟩
theorem d_9 (h:Vs r Q w a n ys):Vs r Any w a n ys:=b_e (fun _ _=>trivial) h
theorem d_h:Vs r Q w none 0 ([]:List α):=⟨rfl,.inl rfl⟩
theorem g_u (hb:Below w.heap.size w w') (h:Vs r Q w a n ys):Vs r Q w' a n ys:=a_B (a_C hb) h
theorem u_R (ob:Obj) (h:Vs r Q w a n ys):Vs r Q (w.alloc ob) a n ys:=a_B (e_h w ob) h
theorem q_m (h:At r Q w b o y):∃ v,w.cell? ⟨b,o,none⟩=some v:=by
 obtain ⟨cs,h1,h2⟩:=h;have hl:=r.len h1;have hp:=r.pos;obtain ⟨v,hv⟩:∃ v,cs[0]?=some v:=⟨cs[0]'(by omega),by simp [show 0 < cs.length by omega]⟩;exact ⟨v,h2 0 v hv⟩
theorem c_S (h:Vs r Q w a n ys):Vs r (fun b=>Q b∧b < w.heap.size) w a n ys:=by
 obtain ⟨h1,h2⟩:=h
 by_cases h0:n=0
 ·exact ⟨h1,.inl h0⟩
 ·obtain ⟨b,o,e,hq,f⟩:=h2.resolve_left h0;refine ⟨h1,.inr ⟨b,o,e,⟨hq,?_⟩,fun i y hi=>?_⟩⟩
  ·obtain ⟨y,hy⟩:∃ y,ys[0]?=some y:=⟨ys[0]'(by omega),by simp [show 0 < ys.length by omega]⟩;obtain ⟨v,hv⟩:=q_m (f 0 y hy);exact b_Q hv
  ·obtain ⟨cs,h3,h4⟩:=f i y hi;exact ⟨cs,r.und h3,h4⟩
theorem s_i (h:Vs r Any w a n ys):Vs r (fun b=>b < w.heap.size) w a n ys:=b_e (fun _ h=>h.2) (c_S h)
theorem j_a (h:Vs r Q w a n ys) {i:Nat} (hi:i < n):∃ b o y,a=some ⟨b,o,none⟩∧ys[i]?=some y∧Q b∧At r Q w b (o+i*r.k) y:=by
 obtain ⟨h1,h2⟩:=h;obtain ⟨b,o,e,hq,f⟩:=h2.resolve_left (by omega);have hy:ys[i]?=some (ys[i]'(by omega)):=by simp [show i < ys.length by omega]
 exact ⟨b,o,_,e,hy,hq,f i _ hy⟩
theorem j_b (h:Vs r Q w a n ys) (m:Nat) (hm:m≤n):Vs r Q w a m (ys.take m):=by
 obtain ⟨h1,h2⟩:=h;refine ⟨by rw [List.length_take];omega,?_⟩
 by_cases h0:m=0
 ·exact .inl h0
 ·obtain ⟨b,o,e,hq,f⟩:=h2.resolve_left (by omega);refine .inr ⟨b,o,e,hq,fun i y hi=>f i y ?_⟩;rw [List.getElem?_take] at hi
  split at hi
  ·exact hi
  ·cases hi
def d_p (r:Rep α) (Q:Nat→Prop) (w:World):List Value→List α→Prop
 | cs,[]=>cs=[]
 | cs,y::ys=>∃ c d,cs=c++d∧r.R Q w c y∧d_p r Q w d ys
theorem b_n (hk:Kept Q w w'):∀ {ys:List α} {cs:List Value},d_p r Q w cs ys→d_p r Q w' cs ys
 | [],_,h=>h
 | _::_,_,⟨c,d,e,h1,h2⟩=>⟨c,d,e,r.keep hk h1,b_n hk h2⟩
theorem c_n (hQ:∀ b,Q b→Q' b):∀ {ys:List α} {cs:List Value},d_p r Q w cs ys→d_p r Q' w cs ys
 | [],_,h=>h
 | _::_,_,⟨c,d,e,h1,h2⟩=>⟨c,d,e,r.mono hQ h1,c_n hQ h2⟩
theorem b_f:∀ {ys:List α} {cs:List Value},d_p r Q w cs ys→cs.length=ys.length*r.k
 | [],_,h=>by rw [show _=[] from h];simp
 | y::ys,_,⟨c,d,e,h1,h2⟩=>by
  rw [e,List.length_append,r.len h1,b_f h2,List.length_cons,Nat.add_mul,Nat.one_mul,Nat.add_comm]
theorem e_V {c:List Value} (h:r.R Q w c y):∀ {ys:List α} {cs:List Value},d_p r Q w cs ys→d_p r Q w (cs++c) (ys++[y])
 | [],_,e=>by
  rw [show _=[] from e];exact ⟨c,[],by simp,h,rfl⟩
 | _::_,_,⟨c',d,e,h1,h2⟩=>⟨c',d++c,by rw [e,List.append_assoc],h1,e_V h h2⟩
theorem f_B:∀ {ys:List α} {cs:List Value},d_p r Q w cs ys→∀ i y,ys[i]?=some y→∃ c,r.R Q w c y∧∀ j v,c[j]?=some v→cs[i*r.k+j]?=some v
 | [],_,_,i,y,hi=>by simp at hi
 | y'::ys,_,⟨c,d,e,h1,h2⟩,0,y,hi=>by
  obtain rfl:y'=y:=by simpa using hi
  refine ⟨c,h1,fun j v hj=>?_⟩;subst e;rw [Nat.zero_mul,Nat.zero_add,List.getElem?_append_left (by have:=List.getElem?_eq_some_iff.1 hj;exact this.1)];exact hj
 | y'::ys,_,⟨c,d,e,h1,h2⟩,i+1,y,hi=>by
  obtain ⟨c',h3,h4⟩:=f_B h2 i y (by simpa using hi);refine ⟨c',h3,fun j v hj=>?_⟩;subst e;have hl:=r.len h1;rw [List.getElem?_append_right (by rw [hl,Nat.add_mul];omega),hl];have:=h4 j v hj;rw [show (i+1)*r.k+j - r.k=i*r.k+j by rw [Nat.add_mul];omega];exact this
theorem q_C:d_p r Q w [] ([]:List α):=rfl
theorem e_G {B:Nat} {e:TypeId} {v:Value} {cs:List Value} (h:w.ownsRow B e r.k v n cs) (hf:d_p r Q w cs ys) (hQ:∀ b,B≤b→b < w.heap.size→Q b) :
  ∃ a c,v=.slice a n c∧n≤c∧c≤9223372036854775807∧(a=none→c=0)∧Vs r Q w a n ys:=by
 obtain ⟨hl,h⟩:=h
 have hl':ys.length=n:=by
  have:=b_f hf;rw [this] at hl;exact Nat.eq_of_mul_eq_mul_right r.pos hl
 rcases h with ⟨rfl,h0⟩ | ⟨g,cap,cur,rfl,hb,hg,hn,hm,hs,ht⟩
 ·exact ⟨none,0,by rw [h0],by omega,by omega,fun _=>rfl,hl',.inl h0⟩
 ·unfold maxLen at hm
  have hlt:g < w.heap.size:=by
   have:=Array.getElem?_eq_some_iff.1 hg;exact this.1
  refine ⟨_,_,rfl,hn,by omega,(fun e=>by cases e),hl',.inr ⟨g,0,rfl,hQ g hb hlt,fun i y hi=>?_⟩⟩;obtain ⟨c,h1,h2⟩:=f_B hf i y hi;refine ⟨c,h1,fun j v hj=>?_⟩;have e:=h2 j v hj;rw [←ht,List.getElem?_take] at e
  split at e
  ·simp only [World.cell?,hg];rw [Nat.zero_add]
   simpa using e
  ·cases e
end
def u_z {α:Type} (f:α→Value):Rep α where
 R _ _ cs y:=cs=[f y]
 k:=1
 pos:=by decide
 len h:=by rw [h];rfl
 keep _ h:=h
 mono _ h:=h
 und h:=h
def r_p {α:Type} (k:Nat) (hk:0 < k) (f:α→List Value) (hf:∀ y,(f y).length=k):Rep α where
 R _ _ cs y:=cs=f y
 k:=k
 pos:=hk
 len h:=by rw [h];exact hf _
 keep _ h:=h
 mono _ h:=h
 und h:=h
def repInt:Rep Int:=u_z (.int .i64)
def u_3 (y:Int×Int):List Value:=[.int .i64 y.1,.int .i64 y.2]
def e_3:Rep (Int×Int):=r_p 2 (by decide) u_3 (fun _=>rfl)
section
variable {Q:Nat→Prop} {w:World} {b o:Nat}
theorem n_V {z:Int} (h:At repInt Q w b o z):w.cell? ⟨b,o,none⟩=some (.int .i64 z):=by
 obtain ⟨cs,h1,h2⟩:=h;have h1:cs=[.int .i64 z]:=h1;subst h1;exact h2 0 _ rfl
end
theorem h_e {α:Type} (f:α→Value) {Q:Nat→Prop} {w:World}:∀ (ys:List α),d_p (u_z f) Q w (ys.map f) ys
 | []=>rfl
 | y::ys=>⟨[f y],ys.map f,rfl,rfl,h_e f ys⟩
theorem p_N {α:Type} {f:α→Value} {Q:Nat→Prop} {w:World} {a:Option Addr} {n:Nat} {ys:List α} (h:Vs (u_z f) Q w a n ys):∀ b,a=some b→∀ j u,(ys.map f)[j]?=some u→w.cell? (b.add j)=some u:=by
 intro b hb j u hu;obtain ⟨h1,h2⟩:=h;have hj:j < ys.length:=by simpa using (List.getElem?_eq_some_iff.1 hu).1
 obtain ⟨b',o,e,_,r⟩:=h2.resolve_left (by omega);rw [hb] at e
 injection e with e
 subst e;obtain ⟨cs,e1,e2⟩:=r j _ (List.getElem?_eq_getElem hj);have e1:cs=[f ys[j]]:=e1;subst e1;have h3:=e2 0 _ rfl;have hu':f ys[j]=u:=by simpa [hj] using hu
 rw [←hu']
 have e3:(⟨b',o,none⟩:Addr).add j=⟨b',o+j,none⟩:=by
  simp only [Addr.add];split
  ·subst_vars;rfl
  ·rfl
 rw [e3]
 simpa [u_z] using h3
section
variable {H:Type} {enc:TypeId×Value→H} {P:Program} {w:World} {base:Nat} {spare:Nat→Bool} {held:Bool}
def p_9 {α:Type} (r:Rep α) (ok:α→Prop) (enc:TypeId×Value→H) (P:Program) (w:World) (base:Nat) (spare:Nat→Bool) (held:Bool) (e:TypeId):Prop:=
 ∀ fuel cs x,DataW.trod enc P w base spare held fuel e cs=some x→∃ y,r.R Any w cs y∧ok y
theorem p_h {t:TypeId} (ht:P.underlying t=some (.int .i64)):p_9 repInt (fun z=>(Lit.int .i64 z).wf=true) enc P w base spare held t:=by
 intro fuel cs x h;obtain ⟨n,h1,_,h2⟩:=DataW.trod_int ht h;exact ⟨n,h1,h2⟩
def u_w {α:Type} (r:Rep α) (ok:α→Prop) (w:World) (a:Option Addr) (len cap:Nat) (ys:List α):Prop:=
 len≤cap∧cap≤9223372036854775807∧(a=none→cap=0)∧Vs r Any w a len ys∧∀ y∈ys,ok y
theorem add_plain (b off j:Nat):(⟨b,off,none⟩:Addr).add j=⟨b,off+j,none⟩:=by
 simp only [Addr.add];split
 ·subst_vars;rfl
 ·rfl
theorem f_D {α:Type} {r:Rep α} {ok:α→Prop} {t e:TypeId} (ht:P.underlying t=some (.slice e)) (hk:P.cellsOf e=r.k) (ho:p_9 r ok enc P w base spare held e) [Inhabited α] :
  ∀ fuel cs x,DataW.trod enc P w base spare held fuel t cs=some x→∃ a len cap ys,cs=[.slice a len cap]∧u_w r ok w a len cap ys:=by
 intro fuel cs x h
 rcases Go.Deep.open_slice ht h with ⟨hcs,_⟩ | ⟨a,len,cap,m,n,D,Pl,hcs,_,hl,hm,hmm,_,hc⟩
 ·exact ⟨none,0,0,[],hcs,Nat.le_refl _,by omega,fun _=>rfl,d_h,by simp⟩
 ·unfold maxLen at hm;have hlm:len≤m:=by rw [hmm];split <;> omega
  rw [hk] at hc
  have each:∀ i,i < len→∃ y:α,(∃ cs',w.cells? base (a.add (i*r.k)) r.k=some cs'∧r.R Any w cs' y)∧ok y:=by
   intro i hi;obtain ⟨cs',h1,h2⟩:=hc i (by omega);obtain ⟨y,h3,h4⟩:=ho _ _ _ h2;exact ⟨y,⟨cs',h1,h3⟩,h4⟩
  obtain ⟨f,hf⟩:=Go.Deep.choose_lt each;refine ⟨some a,len,cap,(List.range len).map f,hcs,hl,by omega,(fun e=>by cases e),⟨by simp,?_⟩,?_⟩
  ·by_cases h0:len=0
   ·exact .inl h0
   ·right
    obtain ⟨b,o,s⟩:=a
    have hs:s=none:=by
     obtain ⟨⟨cs',h1,h3⟩,_⟩:=hf 0 (by omega);obtain ⟨_,hlen,hcell⟩:=World.cells?_some h1;have hp:=r.pos;have h5:=hcell 0 (by omega);rw [Go.Deep.add_add,Nat.zero_mul,List.getElem?_eq_getElem (by omega)] at h5
     simpa [Addr.add] using World.cell?_spot h5
    subst hs;refine ⟨b,o,rfl,trivial,fun i y hi=>?_⟩
    have hil:i < len:=by
     have:=(List.getElem?_eq_some_iff.1 hi).1
     simpa using this
    have hy:f i=y:=by simpa [hil] using hi
    obtain ⟨⟨cs',h1,h3⟩,_⟩:=hf i hil;rw [hy] at h3;obtain ⟨_,hlen,hcell⟩:=World.cells?_some h1;refine ⟨cs',h3,fun j v hj=>?_⟩
    have hjl:j < r.k:=by
     have:=(List.getElem?_eq_some_iff.1 hj).1
     omega
    have h5:=hcell j hjl;rw [Go.Deep.add_add,add_plain] at h5;rw [Nat.add_assoc,h5,hj]
  ·intro y hy;obtain ⟨i,hi,rfl⟩:=List.mem_map.1 hy;exact (hf i (by simpa using hi)).2
end
theorem k_U (w:World) (o:Obj) (g:Nat) (hg:g=w.heap.size):(w.alloc o).heap[g]?=some o:=by
 subst hg;show (w.heap.push o)[w.heap.size]?=some o;simp
def a_p (w:World) (g:Nat) (vs:List Value):Prop:=∀ i v,vs[i]?=some v→w.cell? ⟨g,i,none⟩=some v∧w.frozen? ⟨g,i,none⟩=false
section
variable {w w':World} {g:Nat} {vs xs:List Value}
theorem a_e (vs:List Value) {t:TypeId} (g:Nat) (hg:g=w.heap.size):a_p (w.alloc (.cells vs.toArray t)) g vs:=by
 intro i v hi;have hh:=k_U w (.cells vs.toArray t) g hg;refine ⟨?_,by simp [World.frozen?,hh]⟩;simp only [World.cell?,hh]
 simpa using hi
theorem a_N (h:a_p w g vs) (h0:0 < vs.length):g < w.heap.size:=by
 obtain ⟨v,hv⟩:∃ v,vs[0]?=some v:=⟨vs[0],by simp [h0]⟩;exact b_Q (h 0 v hv).1
theorem i_9 {F:Nat} (hb:Below F w w') (hg:g < F) (h:a_p w g vs):a_p w' g vs:=fun i v hi =>
 ⟨(hb.cell (p:=⟨g,i,none⟩) hg).trans (h i v hi).1,(hb.frozen (p:=⟨g,i,none⟩) hg).trans (h i v hi).2⟩
theorem a_h (hb:Below w.heap.size w w') (h:a_p w g vs):a_p w' g vs:=fun i v hi =>
 i_9 hb (b_Q (h i v hi).1) h i v hi
theorem a_s (o:Obj) (h:a_p w g vs):a_p (w.alloc o) g vs:=a_h ((Below.refl _ _).alloc (Nat.le_refl _) _) h
theorem b_K (h:a_p w g vs):a_p w.drew g vs:=a_h (Below.refl _ _).drew h
theorem a_l {g' o:Nat} (h:a_p w g vs) (hne:g'≠g) (x:Value):a_p (w.setCell ⟨g',o,none⟩ x) g vs:=fun i v hi=>by
 obtain ⟨h1,h2⟩:=h i v hi;refine ⟨?_,by rw [World.frozen?_setCell];exact h2⟩;rw [World.cell?_setCell_other _ _ _ _ (fun e=>hne (congrArg Addr.block e))];exact h1
theorem a_y (h:a_p w g vs) (i:Nat) (hi:i < vs.length) (x:Value):a_p (w.setCell ⟨g,i,none⟩ x) g (vs.set i x):=by
 intro j v hj;rw [List.getElem?_set] at hj
 by_cases e:i=j
 ·subst e;rw [if_pos rfl,if_pos hi] at hj;obtain rfl:x=v:=by injection hj
  obtain ⟨u,hu⟩:∃ u,vs[i]?=some u:=⟨vs[i],by simp [hi]⟩;obtain ⟨h1,h2⟩:=h i u hu;exact ⟨World.cell?_setCell_same' _ _ _ (by rw [h1];rfl),by rw [World.frozen?_setCell];exact h2⟩
 ·rw [if_neg e] at hj;obtain ⟨h1,h2⟩:=h j v hj;refine ⟨?_,by rw [World.frozen?_setCell];exact h2⟩;rw [World.cell?_setCell_other _ _ _ _ (fun h=>e (congrArg Addr.off h))];exact h1
def d_u (w:World) (g:Nat):Nat→List Value→World
 | _,[]=>w
 | k,x::xs=>d_u (w.setCell ⟨g,k,none⟩ x) g (k+1) xs
theorem b_c:∀ {xs:List Value} {w:World} {vs:List Value} (k:Nat),a_p w g vs→k+xs.length≤vs.length→a_p (d_u w g k xs) g (vs.take k++xs++vs.drop (k+xs.length))
 | [],w,vs,k,h,_=>by simpa [d_u] using h
 | x::xs,w,vs,k,h,hl=>by
  rw [List.length_cons] at hl;have h1:=a_y h k (by omega) x;have h2:=b_c (xs:=xs) (k+1) h1 (by rw [List.length_set];omega)
  have e:(vs.set k x).take (k+1)++xs++(vs.set k x).drop (k+1+xs.length)=vs.take k++(x::xs)++vs.drop (k+(x::xs).length):=by
   rw [List.take_succ_eq_append_getElem (by rw [List.length_set];omega),List.getElem_set_self,List.take_set_of_le (Nat.le_refl _),List.drop_set_of_lt (by omega),List.length_cons];simp [Nat.add_comm,Nat.add_left_comm]
  rw [e] at h2;exact h2
theorem a_q (h:a_p w g vs) (hl:xs.length=vs.length):a_p (d_u w g 0 xs) g xs:=by
 have:=b_c (xs:=xs) 0 h (by omega)
 simpa [hl] using this
theorem a_g {F:Nat} (hg:F≤g):∀ {xs:List Value} {w0 w:World} {k:Nat},Below F w0 w→Below F w0 (d_u w g k xs)
 | [],_,_,_,h=>h
 | x::xs,w0,w,k,h=>by
  show Below F w0 (d_u (w.setCell ⟨g,k,none⟩ x) g (k+1) xs)
  exact a_g hg (h.setCell (p:=⟨g,k,none⟩) hg x)
theorem a_u {Q:Nat→Prop} (hQ:∀ b,Q b→b≠g):∀ {xs:List Value} {w:World} {k:Nat},Kept Q w (d_u w g k xs)
 | [],_,_=>o_G _ _
 | x::xs,w,k=>by
  show Kept Q w (d_u (w.setCell ⟨g,k,none⟩ x) g (k+1) xs)
  exact a_3 (a_U w ⟨g,k,none⟩ _ (fun b hb=>hQ b hb)) (a_u hQ)
theorem a_j {g':Nat} (hne:g'≠g):∀ {xs:List Value} {w:World} {k:Nat},a_p w g vs→a_p (d_u w g' k xs) g vs
 | [],_,_,h=>h
 | x::xs,w,k,h=>by
  show a_p (d_u (w.setCell ⟨g',k,none⟩ x) g' (k+1) xs) g vs
  exact a_j hne (a_l h hne _)
end
theorem f_e (w:World) (g:Nat):∀ (vs:List Value) (k:Nat),w.setCells g k vs=d_u w g k vs:=by
 intro vs
 induction vs generalizing w with
 | nil=>intro k;rfl
 | cons v vs ih=>intro k;exact ih _ _
section
variable {w w':World} {B:Nat} {e:TypeId} {size:Nat} {v:Value} {n:Nat} {xs:List Value}
theorem b_a (h:w.ownsRow B e size v n xs) (hb:Below w.heap.size w w'):w'.ownsRow B e size v n xs:=
 h.kept (row:=none) ⟨hb.os,hb.tape,hb.output,hb.size,fun j hj _=>hb.block j hj⟩ (by cases hv:v.ownBlock <;> simp)
theorem b_b (h:w.ownsRow B e size v n xs) {g:Nat} (hg:v.ownBlock=some g):B≤g∧g < w.heap.size:=h.lt g hg
theorem d_U (h:w.ownsRow B e size v n xs) (p:Addr) (hp:v.ownBlock≠some p.block) (x:Value):(w.setCell p x).ownsRow B e size v n xs:=by
 obtain ⟨h1,h2⟩:=h;refine ⟨h1,?_⟩
 rcases h2 with h2 | ⟨g,cap,cur,hv,hg,hh,r⟩
 ·exact Or.inl h2
 ·refine Or.inr ⟨g,cap,cur,hv,hg,?_,r⟩;rw [Below.heap_setCell _ _ _ _ (fun e=>hp (by rw [hv];exact congrArg some e))];exact hh
theorem c_g (h:w.ownsRow B e size v n xs):∃ a c,v=.slice a n c:=by
 exact J71
theorem r_9 {B':Nat} (h:w.ownsRow B e size v n xs) (hb:B'≤B):w.ownsRow B' e size v n xs:=
 ⟨h.1,h.2.imp id fun ⟨g,cap,cur,h1,h2,h3⟩=>⟨g,cap,cur,h1,Nat.le_trans hb h2,h3⟩⟩
theorem b_2 {p:Addr} (h:w.ownsRow B e size v n xs) (hp:w.heap.size≤p.block∨p.block < B):v.ownBlock≠some p.block:=fun e=>by
 have:=b_b h e;omega
theorem a_0 {g:Nat} (hne:v.ownBlock≠some g):∀ {us:List Value} {w:World} {k:Nat},w.ownsRow B e size v n xs→(d_u w g k us).ownsRow B e size v n xs
 | [],_,_,h=>h
 | u::us,w,k,h=>by
  show (d_u (w.setCell ⟨g,k,none⟩ u) g (k+1) us).ownsRow B e size v n xs
  exact a_0 hne (d_U h ⟨g,k,none⟩ hne u)
end
section
variable {w w':World} {row:Option Nat}
theorem i_a (hg:w.grownBy w' row) {b:Nat} (hb:b < w.heap.size) (hne:row≠some b) (o:Nat):w'.cell? ⟨b,o,none⟩=w.cell? ⟨b,o,none⟩∧w'.frozen? ⟨b,o,none⟩=w.frozen? ⟨b,o,none⟩:=
 ⟨World.cell?_of_block (a:=⟨b,o,none⟩) (hg.block b hb (fun e=>hne e.symm)),World.frozen?_of_block (a:=⟨b,o,none⟩) (hg.block b hb (fun e=>hne e.symm))⟩
theorem b_C {g:Nat} {vs:List Value} (hg:w.grownBy w' row) (hne:row≠some g) (h:a_p w g vs):a_p w' g vs:=fun i v hi=>by
 obtain ⟨h1,h2⟩:=h i v hi;obtain ⟨e1,e2⟩:=i_a hg (b_Q h1) hne i;exact ⟨e1.trans h1,e2.trans h2⟩
theorem c_1 {Q:Nat→Prop} (hg:w.grownBy w' row) (hQ:∀ b,Q b→row≠some b):Kept Q w w':=fun b o v hq h=>by
 rw [(i_a hg (b_Q h) (hQ b hq) o).1];exact h
end
end Go.Proofs.YtogdpojnbgeknaaGreatDoor.Gen
namespace Go.Proofs.YtogdpojnbgeknaaGreatDoor
open Go.ChangeShapes Go.WideShapes Go.ChangeAt Go.RowKit
theorem b_d {w:World} {a:Addr} {v:Value} (h:w.cell? a=some v):a.block < w.heap.size:=by
 apply Classical.byContradiction
 intro hn;have:w.heap[a.block]?=none:=by simp;omega
 simp [World.cell?,this] at h
theorem a_8 {w:World} {a:Addr} {v:Value} (o:Obj) (h:w.cell? a=some v):(w.alloc o).cell? a=some v:=by
 rw [World.cell?_alloc_lt _ _ _ (b_d h)];exact h
theorem a_4 (w:World) (o:Obj) (g:Nat) (hg:g=w.heap.size):(w.alloc o).heap[g]?=some o:=by
 subst hg;show (w.heap.push o)[w.heap.size]?=some o;simp
theorem b_r (w:World) (o:Obj) (g:Nat) (hg:g < w.heap.size):(w.alloc o).heap[g]?=w.heap[g]?:=Below.heap_alloc w o g hg
theorem f_Q (w:World):w.drew.heap=w.heap:=rfl
theorem d_M (w:World) (c cs:Array Value) (t:TypeId) (fr:Nat×Nat) (g:Nat) (hg:g=w.heap.size):(w.alloc (.cells c t fr)).setRow g cs=w.alloc (.cells cs t fr):=by
 subst hg;simp only [World.setRow,World.alloc]
 congr 1
 apply Array.ext
 ·simp
 ·intro i h1 h2;simp only [Array.getElem_modify,Array.getElem_push]
  split
  ·subst_vars;simp
  ·have:i < w.heap.size:=by simp at h2;omega
   simp [this]
theorem d_N (w:World) (o:Obj) (cs:Array Value) (g:Nat) (hg:g < w.heap.size):(w.alloc o).setRow g cs=(w.setRow g cs).alloc o:=by
 simp only [World.setRow,World.alloc]
 congr 1
 apply Array.ext
 ·simp
 ·intro i h1 h2;simp only [Array.getElem_modify,Array.getElem_push,Array.size_modify]
  split
  ·subst_vars;simp [hg]
  ·rfl
theorem h_z (w:World) (cs:Array Value) (g:Nat):w.drew.setRow g cs=(w.setRow g cs).drew:=rfl
theorem a_a {w w0 w1:World} (h0:Below w.heap.size w w0) (h:Below w0.heap.size w0 w1):Below w.heap.size w w1:=h0.trans (h.mono h0.size)
theorem g_I {W w1:World} (hb:Below W.heap.size W w1):(∀ b o,b < W.heap.size→w1.cell? ⟨b,o,none⟩=W.cell? ⟨b,o,none⟩)∧(∀ b o,b < W.heap.size→w1.frozen? ⟨b,o,none⟩=W.frozen? ⟨b,o,none⟩):=
 ⟨fun b o h=>hb.cell (p:=⟨b,o,none⟩) h,fun b o h=>hb.frozen (p:=⟨b,o,none⟩) h⟩
theorem a_t {w w':World} {a:Addr} {v:Value} (hb:Below w.heap.size w w') (h:w.cell? a=some v):w'.cell? a=some v:=by
 rw [hb.cell (b_d h)];exact h
theorem b_F {w:World} {b k:Nat} {c:Array Value} {t:TypeId} (h:w.heap[b]?=some (.cells c t)):w.frozen? ⟨b,k,none⟩=false:=by
 simp [World.frozen?,h]
theorem a_Y {w:World} {c:Array Value} {t:TypeId} {fr:Nat×Nat} (g k:Nat) (v:Value) (hg:g=w.heap.size) (hv:c[k]?=some v):(w.alloc (.cells c t fr)).cell? ⟨g,k,none⟩=some v:=by
 simp only [World.cell?,a_4 w _ g hg]
 simpa using hv
theorem d_L {w:World} {g k:Nat} (o:Obj) (hg:g < w.heap.size):(w.alloc o).frozen? ⟨g,k,none⟩=w.frozen? ⟨g,k,none⟩:=by
 simp only [World.frozen?,b_r w o g hg]
theorem c_o {w:World} {c:Array Value} {t:TypeId} (g k:Nat) (hg:g=w.heap.size):(w.alloc (.cells c t)).frozen? ⟨g,k,none⟩=false:=b_F (a_4 w _ g hg)
def b_h (r:Bool) (w:World) (e:Ending) (w':World):Prop:=e=.returned (.bool r)∧Below w.heap.size w w'
theorem a_k {r s:Bool} {w w':World} (h:r=s) (hb:Below w.heap.size w w'):b_h r w (.returned (.bool s)) w':=by subst h;exact ⟨rfl,hb⟩
def g_Z (r:Bool) (w:World) (e:Ending) (w':World):Prop:=e=.returned (.bool r)∧w'=w
theorem c_T {r s:Bool} {w:World} (h:r=s):g_Z r w (.returned (.bool s)) w:=by subst h;exact ⟨rfl,rfl⟩
theorem a_m {fn:Func} {R:Ending→World→Prop} {a:Act} {w:World} {p u:Tmp} {ty:TypeId} {X:Value} (ad:Addr) (hr:fn.results=#[.cell p ty,.tmp u]) (hd:a.defers=[])
  (hp:a.tmps.getD p undef=.pointer (some ad)) (hl:(loadVar ty ad).run Tryz.prog w=.ok X w) (h:R (.returned (.tuple #[X,a.tmps.getD u undef])) w):bodyPost Tryz.prog fn R .ret a w:=by
 refine bodyPost_ret (v:=.tuple #[X,a.tmps.getD u undef]) ?_ hd h;rw [results_cell_tmp hr,hp];simp [asAddr,Result.andThen,hl]
theorem a_X {fn:Func} {R:Ending→World→Prop} {a:Act} {w:World} {p:Tmp} {ty:TypeId} {X:Value} (ad:Addr) (hr:fn.results=#[.cell p ty]) (hd:a.defers=[])
  (hp:a.tmps.getD p undef=.pointer (some ad)) (hl:(loadVar ty ad).run Tryz.prog w=.ok X w) (h:R (.returned X) w):bodyPost Tryz.prog fn R .ret a w:=by
 refine bodyPost_ret (v:=X) ?_ hd h;have hp':a.tmps[p]?.getD undef=.pointer (some ad):=by simpa using hp
 simp [results,hr,asAddr,hp',hl]
theorem b_P {fn:Func} {R:Ending→World→Prop} {a:Act} {w:World} {p u v:Tmp} {ty:TypeId} {X:Value} (ad:Addr) (hr:fn.results=#[.cell p ty,.tmp u,.tmp v]) (hd:a.defers=[])
  (hp:a.tmps.getD p undef=.pointer (some ad)) (hl:(loadVar ty ad).run Tryz.prog w=.ok X w) (h:R (.returned (.tuple #[X,a.tmps.getD u undef,a.tmps.getD v undef])) w):bodyPost Tryz.prog fn R .ret a w:=by
 refine bodyPost_ret (v:=.tuple #[X,a.tmps.getD u undef,a.tmps.getD v undef]) ?_ hd h;have hp':a.tmps[p]?.getD undef=.pointer (some ad):=by simpa using hp
 simp [results,hr,asAddr,hp',hl]
theorem f_2 {P:Program} {ops:Array Oper} {o:Oper} {a:Act} {w:World} {K:Act→World→Prop} {Q:Exit→Act→World→Prop} {E:Prop}
  (hg:o.guard=none) (d s:Operand) (dT sT:TypeId) (hop:o.op=Op.call { callee:=Callee.builtin Builtin.copy,args:=#[d,s],argTypes:=#[dT,sT] })
  (vd vs v':Value) (w':World) (hd:a.eval d=vd) (hs:a.eval s=vs) (hr:(Builtin.copy_ #[dT,sT] o.type #[vd,vs]).run P w=.ok v' w') (hK:K (a.put o.dst v') w') :
  if Region.wanted o (yielded ops a.tmps)=true then Oper.wp P o a w K Q else E:=by
 have hw:=N230;rw [if_pos hw];unfold Oper.wp;simp [execOp,hop,resolve,invoke,builtin,hd,hs,hr,Result.andThen];exact hK
end Go.Proofs.YtogdpojnbgeknaaGreatDoor
namespace Go.Proofs.YtogdpojnbgeknaaGreatDoor
open Go.ChangeShapes Go.WideShapes Go.ChangeAt Go.RowKit
open Gen
abbrev Fr:=Int×Int×Int×Int×Int
def e_g (y:Fr):List Value:=[.int .i64 y.1,.int .i64 y.2.1,.int .i64 y.2.2.1,.int .i64 y.2.2.2.1,.int .i64 y.2.2.2.2]
def repFr:Rep Fr:=r_p 5 (by decide) e_g (fun _=>rfl)
theorem q_D {w:World} {p:Option Addr} {n:Nat} {t:List Fr} (S:Vs repFr Any w p n t) {k:Nat} (hk:k < n) :
  ∃ b o x0 x1 x2 x3 x4,p=some ⟨b,o,none⟩∧t[k]?=some (x0,x1,x2,x3,x4)∧w.cell? ⟨b,o+k*5,none⟩=some (.int .i64 x0)∧w.cell? ⟨b,o+k*5+1,none⟩=some (.int .i64 x1)∧w.cell? ⟨b,o+k*5+2,none⟩=some (.int .i64 x2)∧w.cell? ⟨b,o+k*5+3,none⟩=some (.int .i64 x3)∧w.cell? ⟨b,o+k*5+4,none⟩=some (.int .i64 x4):=by
 obtain ⟨b,o,⟨x0,x1,x2,x3,x4⟩,e,ht,_,cs,h1,h2⟩:=j_a S hk;have h1:cs=e_g (x0,x1,x2,x3,x4):=h1;subst h1;rw [show repFr.k=5 from rfl] at h2;exact ⟨b,o,x0,x1,x2,x3,x4,e,ht,h2 0 _ rfl,h2 1 _ rfl,h2 2 _ rfl,h2 3 _ rfl,h2 4 _ rfl⟩
theorem j_F {w:World} {p:Option Addr} {n:Nat} {t:List Int} (S:Vs repInt Any w p n t) {k:Nat} (hk:k < n) :
  ∃ b o x,p=some ⟨b,o,none⟩∧t[k]?=some x∧w.cell? ⟨b,o+k,none⟩=some (.int .i64 x):=by
 obtain ⟨b,o,x,e,ht,_,h⟩:=j_a S hk;rw [show repInt.k=1 from rfl,Nat.mul_one] at h;exact ⟨b,o,x,e,ht,n_V h⟩
def Cap (a:Option Addr) (n c:Nat):Prop:=n≤c∧c≤9223372036854775807∧(a=none→c=0)
theorem b_W:Cap none 0 0:=⟨Nat.le_refl _,by omega,fun _=>rfl⟩
structure Thr where
 pc:Int
 r:Nat→Int
 fs:List Fr
 st:Int
 ft:Int
 lf:List Int
abbrev thC (t:Thr) (a:Option Addr) (n c:Nat) (b:Option Addr) (m d:Nat):List Value:=[.int .i64 t.pc,.int .i64 (t.r 0),.int .i64 (t.r 1),.int .i64 (t.r 2),.int .i64 (t.r 3),.int .i64 (t.r 4),.int .i64 (t.r 5),.int .i64 (t.r 6),.int .i64 (t.r 7),.slice a n c,.int .i64 t.st,.int .i64 t.ft,.slice b m d]
abbrev rgC (r:Nat→Int):List Value:=[.int .i64 (r 0),.int .i64 (r 1),.int .i64 (r 2),.int .i64 (r 3),.int .i64 (r 4),.int .i64 (r 5),.int .i64 (r 6),.int .i64 (r 7)]
abbrev rgZ:List Value:=[.int .i64 0,.int .i64 0,.int .i64 0,.int .i64 0,.int .i64 0,.int .i64 0,.int .i64 0,.int .i64 0]
abbrev thN:List Value:=[.int .i64 0,.int .i64 0,.int .i64 0,.int .i64 0,.int .i64 0,.int .i64 0,.int .i64 0,.int .i64 0,.int .i64 0,.slice none 0 0,.int .i64 0,.int .i64 0,.slice none 0 0]
abbrev tkC (t:Thr) (a:Option Addr) (n c:Nat) (b:Option Addr) (m d:Nat) (s:Int) (i:Int×Int×Int×Int):List Value:=[.int .i64 t.pc,.int .i64 (t.r 0),.int .i64 (t.r 1),.int .i64 (t.r 2),.int .i64 (t.r 3),.int .i64 (t.r 4),.int .i64 (t.r 5),.int .i64 (t.r 6),.int .i64 (t.r 7),.slice a n c,.int .i64 t.st,.int .i64 t.ft,.slice b m d,.int .i64 s,.int .i64 i.1,.int .i64 i.2.1,.int .i64 i.2.2.1,.int .i64 i.2.2.2]
def d_z:Thr:=⟨0,fun _=>0,[],0,0,[]⟩
structure ThF (w:World) (fa:Option Addr) (fn fc:Nat) (la:Option Addr) (ln lc:Nat) (t:Thr):Prop where
 fcap:Cap fa fn fc
 fs:Vs repFr Any w fa fn t.fs
 lcap:Cap la ln lc
 lf:Vs repInt Any w la ln t.lf
theorem d_b {w w':World} {fa la:Option Addr} {fn fc ln lc:Nat} {t:Thr} (hb:Below w.heap.size w w') (h:ThF w fa fn fc la ln lc t):ThF w' fa fn fc la ln lc t:=
 ⟨h.fcap,g_u hb h.fs,h.lcap,g_u hb h.lf⟩
def c_p (fs:List Fr):Bool:=decide (fs.length≤6)&&fs.all (fun f=>decide (0≤f.1∧f.1≤1000))
def b_6 (l:List Int):Bool:=decide (l.length≤8)&&l.all (fun n=>decide (0≤n∧n≤8))
def e_a (st ft:Int):Bool:=decide ((st=2∧1≤ft∧ft≤16)∨((st=0∨st=1)∧ft=0))
def a_R (t:Thr):Bool:=decide (0≤t.pc∧t.pc≤1000)&&c_p t.fs&&e_a t.st t.ft&&b_6 t.lf
def k_p (fs:List Fr) (k:Nat):Prop:=∀ i f,i < k→fs[i]?=some f→0≤f.1∧f.1≤1000
theorem h_9 {fs:List Fr} {k:Nat} {f:Fr} (h:k_p fs k) (hf:fs[k]?=some f) (h1:0≤f.1∧f.1≤1000):k_p fs (k+1):=by
 intro i g hi hg
 by_cases e:i=k
 ·subst e;rw [hf] at hg;cases hg;exact h1
 ·exact h i g (by omega) hg
theorem h_v {fs:List Fr} {n:Nat} (hl:fs.length=n) (hn:n≤6) (h:k_p fs n):c_p fs=true:=by
 simp only [c_p,Bool.and_eq_true,decide_eq_true_eq,List.all_eq_true];exact J109
theorem i_h {fs:List Fr} {k:Nat} {f:Fr} (hf:fs[k]?=some f) (h:¬ (0≤f.1∧f.1≤1000)):c_p fs=false:=by
 cases hr:c_p fs with
 | false=>rfl
 | true =>
  simp only [c_p,Bool.and_eq_true,decide_eq_true_eq,List.all_eq_true] at hr;exact absurd (hr.2 f (List.mem_of_getElem? hf)) h
theorem j_2 {fs:List Fr} (h:¬ fs.length≤6):c_p fs=false:=by simp [c_p,h]
theorem l_m {fs:List Fr} (h:c_p fs=true):fs.length≤6:=by
 simp only [c_p,Bool.and_eq_true,decide_eq_true_eq] at h;exact h.1
def s_o (fs:List Int) (k:Nat):Prop:=∀ i f,i < k→fs[i]?=some f→0≤f∧f≤8
theorem j_G {fs:List Int} {k:Nat} {f:Int} (h:s_o fs k) (hf:fs[k]?=some f) (h1:0≤f∧f≤8):s_o fs (k+1):=by
 intro i g hi hg
 by_cases e:i=k
 ·subst e;rw [hf] at hg;cases hg;exact h1
 ·exact h i g (by omega) hg
theorem h_w {fs:List Int} {n:Nat} (hl:fs.length=n) (hn:n≤8) (h:s_o fs n):b_6 fs=true:=by
 simp only [b_6,Bool.and_eq_true,decide_eq_true_eq,List.all_eq_true];exact J109
theorem i_i {fs:List Int} {k:Nat} {f:Int} (hf:fs[k]?=some f) (h:¬ (0≤f∧f≤8)):b_6 fs=false:=by
 cases hr:b_6 fs with
 | false=>rfl
 | true =>
  simp only [b_6,Bool.and_eq_true,decide_eq_true_eq,List.all_eq_true] at hr;exact absurd (hr.2 f (List.mem_of_getElem? hf)) h
theorem j_3 {fs:List Int} (h:¬ fs.length≤8):b_6 fs=false:=by simp [b_6,h]
theorem l_n {fs:List Int} (h:b_6 fs=true):fs.length≤8:=by
 simp only [b_6,Bool.and_eq_true,decide_eq_true_eq] at h;exact h.1
theorem d_R (t e:TypeId) (a:Option Addr) (n c:Nat) (h:Tryz.prog.underlying t=some (.slice e)) (w:World):(binOp .eql t (.slice a n c) (.slice none 0 0)).run Tryz.prog w=.ok (.bool a.isNone) w:=by
 simp only [binOp];simp [Op.equal,Op.maxDepth,Lib.run_equalIn_slice_nil w 9999 t e a n c 0 0 h]
theorem e_U {α:Type} {k:Nat} {hk:0 < k} {f:α→List Value} {hf:∀ y,(f y).length=k} {Q:Nat→Prop} {w:World}:∀ (ys:List α),d_p (r_p k hk f hf) Q w (ys.flatMap f) ys
 | []=>rfl
 | y::ys=>⟨f y,ys.flatMap f,rfl,rfl,e_U ys⟩
theorem k_d {α:Type} {k:Nat} {hk:0 < k} {f:α→List Value} {hf:∀ y,(f y).length=k} {Q:Nat→Prop} {w:World} {a:Option Addr} {n:Nat} {ys:List α} (h:Vs (r_p k hk f hf) Q w a n ys):∀ b,a=some b→∀ j u,(ys.flatMap f)[j]?=some u→w.cell? (b.add j)=some u:=by
 intro b hb j u hu;have hfl:=e_U (hk:=hk) (hf:=hf) (Q:=Q) (w:=w) ys;have hlen:(ys.flatMap f).length=ys.length*k:=b_f hfl;have hj:j < ys.length*k:=by rw [←hlen];exact (List.getElem?_eq_some_iff.1 hu).1
 have hd:j / k < ys.length:=(Nat.div_lt_iff_lt_mul hk).2 hj;obtain ⟨h1,h2⟩:=h;have h0:0 < ys.length:=Nat.lt_of_le_of_lt (Nat.zero_le _) hd;obtain ⟨b',o,e,_,r⟩:=h2.resolve_left (by omega);rw [hb] at e
 injection e with e
 subst e;obtain ⟨cs,e1,e2⟩:=r (j / k) _ (List.getElem?_eq_getElem hd);have e1:cs=f ys[j / k]:=e1;subst e1;obtain ⟨c,e3,e4⟩:=f_B hfl (j / k) _ (List.getElem?_eq_getElem hd);have e3:c=f ys[j / k]:=e3;subst e3;have hm:j % k < (f ys[j / k]).length:=by rw [hf];exact Nat.mod_lt _ hk
 have e5:=e4 (j % k) _ (List.getElem?_eq_getElem hm);have e6:=e2 (j % k) _ (List.getElem?_eq_getElem hm);have e7:j / k*(r_p k hk f hf).k+j % k=j:=Nat.div_add_mod' j k;rw [e7] at e5;rw [Nat.add_assoc,e7] at e6;rw [Gen.add_plain,e6,←e5,hu]
end Go.Proofs.YtogdpojnbgeknaaGreatDoor
namespace Go.Proofs.YtogdpojnbgeknaaGreatDoor
open Go.ChangeShapes Go.WideShapes Go.ChangeAt Go.RowKit
open Gen
open Lib (hid)
theorem c_e (v m:Int) (w:World):Calls Tryz.prog 74 #[.int .i64 v,.int .i64 m] w (g_Z (decide (0≤v∧v≤m)) w):=by
 go_enter Tryz.func74,Tryz.ntmps74
 exact J95
theorem e_W (a:Option Addr) (n c:Nat) (fs:List Fr) (w:World) (S:Vs repFr Any w a n fs) (hn:n≤9223372036854775807) :
  Calls Tryz.prog 75 #[.slice a n c] w (b_h (c_p fs) w):=by
 have Hn:=hid S.1
 by_cases h6:n≤6
 ·have i6:¬ (6:Int) < n:=by omega
  go_enter Tryz.func75,Tryz.ntmps75
  go_wp2
  go_loopw [10] (fun i wr=>∃ k:Nat,k≤n∧i=.int .i64 k∧Hid (k_p fs k)∧Below w.heap.size w wr) (fun i _=>n - (intOf i).toNat)
  case atStart=>exact ⟨0,by omega,rfl,(show k_p fs 0 from fun i f hi=>by omega),Below.refl _ _⟩
  case round =>
   obtain ⟨k,hk,rfl,hf,hb⟩:=hrel;obtain ⟨wo,hwo⟩:∃ wo:World,wo=wr:=⟨_,rfl⟩;subst hwo
   by_cases hlt:k < n
   ·obtain ⟨b,o,x0,x1,x2,x3,x4,rfl,hx,g0,g1,g2,g3,g4⟩:=q_D (g_u hb S) hlt;have ⟨HX,HB⟩:=hh2 hx hb;have i1:(0:Int)≤k:=by omega
    have i2:(k:Int) < n:=by omega
    clear hx hb
    by_cases h0:0≤x0∧x0≤1000
    ·have HS:=hid (h_9 hf.out HX.out h0);have HD:=hid (show decide (0≤x0∧x0≤1000)=true by simpa using h0);clear h0
     go_wp2_with fail
     refine (c_e x0 1000 _).mono ?_;rintro e w1 ⟨rfl,h1⟩
     cases h1
     rw [HD.out]
     go_wp2
     go_roundw
     case rel=>exact ⟨k+1,by omega,by go_num,HS.out,HB.out.alloc HB.out.size _⟩
     case measure=>simp [intOf];omega
    ·have HS:=hid (i_h HX.out h0);have HD:=hid (show decide (0≤x0∧x0≤1000)=false by simpa using h0);clear h0
     go_wp2_with fail
     refine (c_e x0 1000 _).mono ?_;rintro e w1 ⟨rfl,h1⟩
     cases h1
     rw [HD.out]
     go_wp2
     go_ret
     exact a_k HS.out (HB.out.alloc HB.out.size _)
   ·obtain rfl:k=n:=by omega
    have HB:=hid hb;clear hb
    go_wp2
    go_ret
    exact a_k (h_v Hn.out h6 hf.out) HB.out
 ·have i6:(6:Int) < n:=by omega
  have HS:=hid (j_2 (fs:=fs) (by rw [Hn.out];exact h6));clear h6
  go_enter Tryz.func75,Tryz.ntmps75
  go_wp2
  go_ret
  exact a_k HS.out (Below.refl _ _)
theorem i_K (a:Option Addr) (n c:Nat) (fs:List Int) (w:World) (S:Vs repInt Any w a n fs) (hn:n≤9223372036854775807) :
  Calls Tryz.prog 77 #[.slice a n c] w (g_Z (b_6 fs) w):=by
 have Hn:=hid S.1
 by_cases h6:n≤8
 ·have i6:¬ (8:Int) < n:=by omega
  go_enter Tryz.func77,Tryz.ntmps77
  go_wp2
  go_loop [10] (fun i=>∃ k:Nat,k≤n∧i=.int .i64 k∧Hid (s_o fs k)) (fun i=>n - (intOf i).toNat)
  case atStart=>exact ⟨0,by omega,rfl,(show s_o fs 0 from fun i f hi=>by omega)⟩
  case round =>
   obtain ⟨k,hk,rfl,hf⟩:=hrel
   by_cases hlt:k < n
   ·obtain ⟨b,o,x0,rfl,hx,g0⟩:=j_F S hlt;have HX:=hid hx;have i1:(0:Int)≤k:=by omega
    have i2:(k:Int) < n:=by omega
    clear hx
    by_cases h0:0≤x0∧x0≤8
    ·have HS:=hid (j_G hf.out HX.out h0);have HD:=hid (show decide (0≤x0∧x0≤8)=true by simpa using h0);clear h0
     go_wp2_with fail
     refine (c_e x0 8 _).mono ?_;rintro e w1 ⟨rfl,h1⟩
     cases h1
     rw [HD.out]
     go_wp2
     go_round
     case rel=>exact ⟨k+1,by omega,by go_num,HS.out⟩
     case measure=>simp [intOf];omega
    ·have HS:=hid (i_i HX.out h0);have HD:=hid (show decide (0≤x0∧x0≤8)=false by simpa using h0);clear h0
     go_wp2_with fail
     refine (c_e x0 8 _).mono ?_;rintro e w1 ⟨rfl,h1⟩
     cases h1
     rw [HD.out]
     go_wp2
     go_ret
     exact c_T HS.out
   ·obtain rfl:k=n:=by omega
    go_wp2
    go_ret
    exact c_T (h_w Hn.out h6 hf.out)
 ·have i6:(8:Int) < n:=by omega
  have HS:=hid (j_3 (fs:=fs) (by rw [Hn.out];exact h6));clear h6
  go_enter Tryz.func77,Tryz.ntmps77
  go_wp2
  go_ret
  exact c_T HS.out
theorem f_t (t:Thr) (fa la:Option Addr) (fn fc ln lc:Nat) (w:World) :
  Calls Tryz.prog 76 #[.agg (thC t fa fn fc la ln lc).toArray] w (b_h (e_a t.st t.ft) w):=by
 go_enter Tryz.func76,Tryz.ntmps76
 go_wp2
 all_goals
  go_ret
  refine a_k ?_ (by go_grown)
  try simp only [beq_iff_eq,beq_eq_false_iff_ne] at *
  rw [Bool.eq_iff_iff];simp [e_a]
  try omega
theorem b_s (w:World) (g:Nat) (t:Thr) (fa la:Option Addr) (fn fc ln lc:Nat) (h:a_p w g (thC t fa fn fc la ln lc)):(loadVar 46 ⟨g,0,none⟩).run Tryz.prog w=.ok (.agg (thC t fa fn fc la ln lc).toArray) w:=by
 have k0:=(h 0 _ rfl).1;have k1:=(h 1 _ rfl).1;have k2:=(h 2 _ rfl).1;have k3:=(h 3 _ rfl).1;have k4:=(h 4 _ rfl).1;have k5:=(h 5 _ rfl).1;have k6:=(h 6 _ rfl).1;have k7:=(h 7 _ rfl).1;have k8:=(h 8 _ rfl).1;have k9:=(h 9 _ rfl).1;have k10:=(h 10 _ rfl).1;have k11:=(h 11 _ rfl).1;have k12:=(h 12 _ rfl).1;simp [go_sem,k0,k1,k2,k3,k4,k5,k6,k7,k8,k9,k10,k11,k12]
theorem d_i (t:Thr) (fa la:Option Addr) (fn fc ln lc:Nat) (w:World) (F:ThF w fa fn fc la ln lc t) :
  Calls Tryz.prog 37 #[.agg (thC t fa fn fc la ln lc).toArray] w (b_h (a_R t) w):=by
 obtain ⟨W,hW⟩:=nm (w.alloc (Obj.cells (thC t fa fn fc la ln lc).toArray 46));have X:=N110;have hB:=N2;have hn:fn≤9223372036854775807:=Nat.le_trans F.fcap.1 F.fcap.2.1;have hm:ln≤9223372036854775807:=Nat.le_trans F.lcap.1 F.lcap.2.1;replace F:=d_b hB F;have S1:=F.fs;have S2:=F.lf;have ⟨HX,HB,HW⟩:=hh3 X hB hW;clear hW X hB F
 go_enter Tryz.func37,Tryz.ntmps37
 go_upto_region 1 with fail
 rw [←HW.out];have k0:=(HX.out 0 _ rfl).1;have k9:=(HX.out 9 _ rfl).1
 cases h1:decide (0≤t.pc∧t.pc≤1000) with
 | false =>
  have H1:=hid h1;clear h1
  go_wp2_with fail
  refine (c_e t.pc 1000 _).mono ?_;rintro e w1 ⟨rfl,h⟩
  cases h
  rw [H1.out]
  go_wp2
  go_ret
  exact a_k (by rw [a_R,H1.out];rfl) HB.out
 | true =>
  have H1:=hid h1;clear h1
  go_wp2_with fail
  refine (c_e t.pc 1000 _).mono ?_;rintro e w1 ⟨rfl,h⟩
  cases h
  rw [H1.out]
  cases h2:c_p t.fs with
  | false =>
   have H2:=hid h2;clear h2
   go_wp2_with fail
   refine (e_W fa fn fc t.fs _ S1 hn).mono ?_;rintro e w1 ⟨rfl,hb1⟩;rw [H2.out];have HB1:=hid (a_a HB.out hb1);clear hb1
   go_wp2
   go_ret
   exact a_k (by rw [a_R,H2.out,Bool.and_false];rfl) HB1.out
  | true =>
   have H2:=hid h2;clear h2
   go_wp2_with fail
   refine (e_W fa fn fc t.fs _ S1 hn).mono ?_;rintro e w1 ⟨rfl,hb1⟩;rw [H2.out];have HB1:=hid (a_a HB.out hb1);have X1:=a_h hb1 HX.out;replace S2:=g_u hb1 S2;have HX1:=hid X1;clear hb1 k0 k9;have k0:=(X1 0 _ rfl).1;have k1:=(X1 1 _ rfl).1;have k2:=(X1 2 _ rfl).1;have k3:=(X1 3 _ rfl).1;have k4:=(X1 4 _ rfl).1;have k5:=(X1 5 _ rfl).1;have k6:=(X1 6 _ rfl).1;have k7:=(X1 7 _ rfl).1;have k8:=(X1 8 _ rfl).1;have k9:=(X1 9 _ rfl).1;have k10:=(X1 10 _ rfl).1;have k11:=(X1 11 _ rfl).1;have k12:=(X1 12 _ rfl).1;clear X1
   cases h3:e_a t.st t.ft with
   | false =>
    have H3:=hid h3;clear h3
    go_wp2_with fail
    refine (f_t t fa la fn fc ln lc _).mono ?_;rintro e w2 ⟨rfl,hb2⟩;rw [H3.out];have HB2:=hid (a_a HB1.out hb2);clear hb2
    go_wp2
    go_ret
    exact a_k (by rw [a_R,H3.out,Bool.and_false];rfl) HB2.out
   | true =>
    have H3:=hid h3;clear h3
    go_wp2_with fail
    refine (f_t t fa la fn fc ln lc _).mono ?_;rintro e w2 ⟨rfl,hb2⟩;rw [H3.out];have HB2:=hid (a_a HB1.out hb2);replace k12:=a_t hb2 k12;replace S2:=g_u hb2 S2;clear hb2
    go_wp2_with fail
    refine (i_K la ln lc t.lf _ S2 hm).mono ?_;rintro e w3 ⟨rfl,h⟩
    cases h
    obtain ⟨r,hr⟩:=mn (b_6 t.lf);have HR:=hid hr;rw [hr];clear hr
    go_wp2
    go_ret
    exact a_k (by rw [a_R,H1.out,H2.out,H3.out,HR.out];rfl) HB2.out
theorem Tryz.sizeI3:(Tryz.prog.info? 3).map (·.size)=some 1:=by kernel_rfl
theorem f_0 (w:World) (b o dl dc b' o' sl sc:Nat) (cs vs us:List Value) (hn:cs.length=Nat.min sl dl) (hs:a_p w b' us) (hsrc:∀ j v,cs[j]?=some v→us[o'+j]?=some v) (hd:a_p w b vs) (hl:o+cs.length≤vs.length) (h1:∀ v∈cs,v.oneCell'=true) :
  (Builtin.copy_ #[23,23] 3 #[.slice (some ⟨b,o,none⟩) dl dc,.slice (some ⟨b',o',none⟩) sl sc]).run Tryz.prog w=.ok (goInt cs.length) (d_u w b o cs):=by
 have hc:∀ j,j < cs.length→∃ v,vs[o+j]?=some v:=fun j hj=>⟨vs[o+j],by simp [show o+j < vs.length by omega]⟩
 rw [←f_e];refine run_copy_cells (P:=Tryz.prog) w 23 23 3 3 b o dl dc ⟨b',o',none⟩ sl sc cs Tryz.underlying23 Tryz.sizeI3 hn (fun j v hj=>?_) (fun j hj=>?_) (fun j hj=>?_) h1
 ·rw [Gen.add_plain];exact (hs _ _ (hsrc j v hj)).1
 ·obtain ⟨v,hv⟩:=hc j hj;rw [(hd _ _ hv).1];rfl
 ·obtain ⟨v,hv⟩:=hc j hj;exact (hd _ _ hv).2
theorem o_J (w:World) (g:Nat) (x0 x1 x2 x3:Value) (h:a_p w g [x0,x1,x2,x3]):(loadVar 99 ⟨g,0,none⟩).run Tryz.prog w=.ok (.agg #[x0,x1,x2,x3]) w:=by
 have k0:=(h 0 _ rfl).1;have k1:=(h 1 _ rfl).1;have k2:=(h 2 _ rfl).1;have k3:=(h 3 _ rfl).1;simp [go_sem,k0,k1,k2,k3]
theorem o_K (w:World) (g:Nat) (x0 x1 x2 x3 x4 x5 x6 x7:Value) (h:a_p w g [x0,x1,x2,x3,x4,x5,x6,x7]):(loadVar 43 ⟨g,0,none⟩).run Tryz.prog w=.ok (.agg #[x0,x1,x2,x3,x4,x5,x6,x7]) w:=by
 have k0:=(h 0 _ rfl).1;have k1:=(h 1 _ rfl).1;have k2:=(h 2 _ rfl).1;have k3:=(h 3 _ rfl).1;have k4:=(h 4 _ rfl).1;have k5:=(h 5 _ rfl).1;have k6:=(h 6 _ rfl).1;have k7:=(h 7 _ rfl).1;simp [go_sem,k0,k1,k2,k3,k4,k5,k6,k7]
theorem q_T (r:Nat→Int) (w:World) :
  Calls Tryz.prog 166 #[.agg (rgC r).toArray] w fun e w'=>e=.returned (.agg #[.int .i64 (r 4),.int .i64 (r 5),.int .i64 (r 6),.int .i64 (r 7)])∧Below w.heap.size w w':=by
 obtain ⟨W,hW⟩:=nm (((w.alloc (Obj.cells (rgC r).toArray 43)).alloc (Obj.cells #[.int .i64 0,.int .i64 0,.int .i64 0,.int .i64 0] 99)).alloc (Obj.cells #[.int .i64 0,.int .i64 0,.int .i64 0,.int .i64 0] 99));have hB:=N2;have X:=N207;have R:a_p W (w.heap.size+1) [.int .i64 0,.int .i64 0,.int .i64 0,.int .i64 0]:=by rw [hW];exact a_s _ (a_e [.int .i64 0,.int .i64 0,.int .i64 0,.int .i64 0] _ (by simp))
 have K:a_p W (w.heap.size+2) [.int .i64 0,.int .i64 0,.int .i64 0,.int .i64 0]:=by rw [hW];exact a_e [.int .i64 0,.int .i64 0,.int .i64 0,.int .i64 0] _ (by simp)
 have hrun:=f_0 W.drew (w.heap.size+2) 0 4 4 w.heap.size 4 4 4 [.int .i64 (r 4),.int .i64 (r 5),.int .i64 (r 6),.int .i64 (r 7)] _ _ rfl (b_K X) (fun j v hj=>by
  match j,hj with
  | 0,h=>exact h
  | 1,h=>exact h
  | 2,h=>exact h
  | 3,h=>exact h
  | j+4,h=>simp at h) (b_K K) (by simp) (by intro v hv;simp at hv;rcases hv with rfl | rfl | rfl | rfl <;> rfl)
 obtain ⟨Z,hZ⟩:=nm (d_u W.drew (w.heap.size+2) 0 [.int .i64 (r 4),.int .i64 (r 5),.int .i64 (r 6),.int .i64 (r 7)]);have K2:a_p Z (w.heap.size+2) [.int .i64 (r 4),.int .i64 (r 5),.int .i64 (r 6),.int .i64 (r 7)]:=by rw [hZ];exact a_q (b_K K) rfl
 have R2:a_p Z (w.heap.size+1) [.int .i64 0,.int .i64 0,.int .i64 0,.int .i64 0]:=by rw [hZ];exact a_j (by omega) (b_K R)
 have B2:Below w.heap.size w Z:=by rw [hZ];exact a_g (by omega) hB.drew
 rw [←hZ] at hrun;have ⟨HRUN,HW,HK2,HR2,HB2⟩:=hh5 hrun hW K2 R2 B2;clear hrun hZ hW K2 R2 B2 hB X R K
 go_enter Tryz.func166,Tryz.ntmps166
 go_upto_region 2 with fail
 rw [←HW.out]
 go_region_law (refine f_2 rfl (.tmp 4) (.tmp 5) 23 23 rfl _ _ _ _ (by simp [Act.eval,Act.put]) (by simp [Act.eval,Act.put]) HRUN.out ?_)
 have k0:=(HK2.out 0 _ rfl).1;have k1:=(HK2.out 1 _ rfl).1;have k2:=(HK2.out 2 _ rfl).1;have k3:=(HK2.out 3 _ rfl).1;obtain ⟨y0,g0⟩:=HR2.out 0 _ rfl;obtain ⟨y1,g1⟩:=HR2.out 1 _ rfl;obtain ⟨y2,g2⟩:=HR2.out 2 _ rfl;obtain ⟨y3,g3⟩:=HR2.out 3 _ rfl
 go_wp2
 refine a_X ⟨w.heap.size+1,0,none⟩ rfl rfl rfl (o_J _ _ _ _ _ _ (a_q (xs:=[.int .i64 (r 4),.int .i64 (r 5),.int .i64 (r 6),.int .i64 (r 7)]) HR2.out rfl)) ?_;exact ⟨rfl,a_g (g:=w.heap.size+1) (xs:=[.int .i64 (r 4),.int .i64 (r 5),.int .i64 (r 6),.int .i64 (r 7)]) (k:=0) (by omega) HB2.out⟩
def j_Z (r:Nat→Int) (k0 k1 k2 k3:Int):Nat→Int:=fun i=>if i=4 then k0 else if i=5 then k1 else if i=6 then k2 else if i=7 then k3 else r i
theorem j_0 (r:Nat→Int) (x0 x1 x2 x3:Int) (w:World) :
  Calls Tryz.prog 167 #[.agg (rgC r).toArray,.agg #[.int .i64 x0,.int .i64 x1,.int .i64 x2,.int .i64 x3]] w fun e w'=>e=.returned (.agg #[.int .i64 ((j_Z r x0 x1 x2 x3) 0),.int .i64 ((j_Z r x0 x1 x2 x3) 1),.int .i64 ((j_Z r x0 x1 x2 x3) 2),.int .i64 ((j_Z r x0 x1 x2 x3) 3),.int .i64 ((j_Z r x0 x1 x2 x3) 4),.int .i64 ((j_Z r x0 x1 x2 x3) 5),.int .i64 ((j_Z r x0 x1 x2 x3) 6),.int .i64 ((j_Z r x0 x1 x2 x3) 7)])∧Below w.heap.size w w':=by
 obtain ⟨W,hW⟩:=nm (((w.alloc (Obj.cells (rgC r).toArray 43)).alloc (Obj.cells #[.int .i64 x0,.int .i64 x1,.int .i64 x2,.int .i64 x3] 99)).alloc (Obj.cells rgZ.toArray 43));have hB:=N2;have X:=N207;have K:a_p W (w.heap.size+1) [.int .i64 x0,.int .i64 x1,.int .i64 x2,.int .i64 x3]:=by rw [hW];exact a_s _ (a_e [.int .i64 x0,.int .i64 x1,.int .i64 x2,.int .i64 x3] _ (by simp))
 have R:a_p W (w.heap.size+2) rgZ:=by rw [hW];exact a_e rgZ _ (by simp)
 have hrun:=f_0 W.drew w.heap.size 4 4 4 (w.heap.size+1) 0 4 4 [.int .i64 x0,.int .i64 x1,.int .i64 x2,.int .i64 x3] _ _ rfl (b_K K) (fun j v hj=>by
  match j,hj with
  | 0,h=>exact h
  | 1,h=>exact h
  | 2,h=>exact h
  | 3,h=>exact h
  | j+4,h=>simp at h) (b_K X) (by simp) (by intro v hv;simp at hv;rcases hv with rfl | rfl | rfl | rfl <;> rfl)
 obtain ⟨Z,hZ⟩:=nm (d_u W.drew w.heap.size 4 [.int .i64 x0,.int .i64 x1,.int .i64 x2,.int .i64 x3]);have X2:a_p Z w.heap.size [.int .i64 (r 0),.int .i64 (r 1),.int .i64 (r 2),.int .i64 (r 3),.int .i64 x0,.int .i64 x1,.int .i64 x2,.int .i64 x3]:=by rw [hZ];exact b_c (xs:=[.int .i64 x0,.int .i64 x1,.int .i64 x2,.int .i64 x3]) 4 (b_K X) (by simp)
 have R2:a_p Z (w.heap.size+2) rgZ:=by rw [hZ];exact a_j (by omega) (b_K R)
 have B2:Below w.heap.size w Z:=by rw [hZ];exact a_g (by omega) hB.drew
 rw [←hZ] at hrun;have ⟨HRUN,HW,HX2,HR2,HB2⟩:=hh5 hrun hW X2 R2 B2;clear hrun hZ hW X2 R2 B2 hB X R K
 go_enter Tryz.func167,Tryz.ntmps167
 go_upto_region 1 with fail
 rw [←HW.out]
 go_region_law (refine f_2 rfl (.tmp 5) (.tmp 6) 23 23 rfl _ _ _ _ (by simp [Act.eval,Act.put]) (by simp [Act.eval,Act.put]) HRUN.out ?_)
 have k0:=(HX2.out 0 _ rfl).1;have k1:=(HX2.out 1 _ rfl).1;have k2:=(HX2.out 2 _ rfl).1;have k3:=(HX2.out 3 _ rfl).1;have k4:=(HX2.out 4 _ rfl).1;have k5:=(HX2.out 5 _ rfl).1;have k6:=(HX2.out 6 _ rfl).1;have k7:=(HX2.out 7 _ rfl).1;obtain ⟨y0,g0⟩:=HR2.out 0 _ rfl;obtain ⟨y1,g1⟩:=HR2.out 1 _ rfl;obtain ⟨y2,g2⟩:=HR2.out 2 _ rfl;obtain ⟨y3,g3⟩:=HR2.out 3 _ rfl;obtain ⟨y4,g4⟩:=HR2.out 4 _ rfl;obtain ⟨y5,g5⟩:=HR2.out 5 _ rfl;obtain ⟨y6,g6⟩:=HR2.out 6 _ rfl;obtain ⟨y7,g7⟩:=HR2.out 7 _ rfl
 go_wp2
 refine a_X ⟨w.heap.size+2,0,none⟩ rfl rfl rfl (o_K _ _ _ _ _ _ _ _ _ _ (a_q (xs:=[.int .i64 (r 0),.int .i64 (r 1),.int .i64 (r 2),.int .i64 (r 3),.int .i64 x0,.int .i64 x1,.int .i64 x2,.int .i64 x3]) HR2.out rfl)) ?_;exact ⟨rfl,a_g (g:=w.heap.size+2) (xs:=[.int .i64 (r 0),.int .i64 (r 1),.int .i64 (r 2),.int .i64 (r 3),.int .i64 x0,.int .i64 x1,.int .i64 x2,.int .i64 x3]) (k:=0) (by omega) HB2.out⟩
def s_q {α:Type} (T:TypeId) (r:Rep α) (f:α→List Value) (ys:List α) (w:World) (e:Ending) (w':World):Prop:=
 ∃ a c,e=.returned (.slice a ys.length c)∧Cap a ys.length c∧w'.ownsRow w.heap.size T r.k (.slice a ys.length c) ys.length (ys.flatMap f)∧Vs r (fun b=>w.heap.size≤b) w' a ys.length ys∧Below w.heap.size w w'
theorem l_9 {α:Type} {r:Rep α} {f:α→List Value} {ys:List α} {w w':World} {T:TypeId} {v:Value} {n:Nat} (hn:ys.length=n) (h:w'.ownsRow w.heap.size T r.k v n (ys.flatMap f)) (hQ:d_p r (fun b=>w.heap.size≤b) w' (ys.flatMap f) ys) (hb:Below w.heap.size w w'):s_q T r f ys w (.returned v) w':=by
 obtain ⟨a,c,rfl,h1,h2,h3,h4⟩:=e_G h hQ (fun b h _=>h);subst hn;exact ⟨a,c,rfl,⟨h1,h2,h3⟩,h,h4,hb⟩
theorem f_P {Q:Nat→Prop} {w:World} (ys:List Fr):d_p repFr Q w (ys.flatMap e_g) ys:=e_U (k:=5) (f:=e_g) (hk:=by decide) (hf:=fun _=>rfl) ys
def p_3 (z:Int):List Value:=[.int .i64 z]
theorem h_d {Q:Nat→Prop} {w:World}:∀ (ys:List Int),d_p repInt Q w (ys.flatMap p_3) ys
 | []=>rfl
 | y::ys=>⟨[.int .i64 y],ys.flatMap p_3,rfl,rfl,h_d ys⟩
theorem r_b (ys:List Int):∀ u∈ys.flatMap p_3,u.oneCell'=true:=by
 intro u hu;obtain ⟨y,_,h⟩:=List.mem_flatMap.1 hu;simp [p_3] at h;subst h;rfl
theorem p_a (ys:List Fr):∀ u∈ys.flatMap e_g,u.oneCell'=true:=by
 intro u hu;obtain ⟨y,_,h⟩:=List.mem_flatMap.1 hu;simp [e_g] at h;rcases h with rfl | rfl | rfl | rfl | rfl <;> rfl
theorem q_U (ys:List Int):(ys.flatMap p_3).length=ys.length:=by
 have:=b_f (h_d (Q:=Any) (w:=default) ys);rw [this];exact Nat.mul_one _
theorem o_H (ys:List Fr):(ys.flatMap e_g).length=ys.length*5:=b_f (f_P (Q:=Any) (w:=default) ys)
theorem l_5:∀ (ys:List Int),ys.flatMap p_3=ys.map (Value.int .i64)
 | []=>rfl
 | y::ys=>congrArg (Value.int .i64 y::·) (l_5 ys)
theorem p_O {Q:Nat→Prop} {w:World} {a:Option Addr} {n:Nat} {ys:List Int} (h:Vs repInt Q w a n ys):∀ b,a=some b→∀ j u,(ys.flatMap p_3)[j]?=some u→w.cell? (b.add j)=some u:=by
 rw [l_5];exact p_N h
theorem i_r {Q:Nat→Prop} {w:World} {a:Option Addr} {n:Nat} {ys:List Fr} (h:Vs repFr Q w a n ys):∀ b,a=some b→∀ j u,(ys.flatMap e_g)[j]?=some u→w.cell? (b.add j)=some u:=
 k_d (k:=5) (f:=e_g) (hk:=by decide) (hf:=fun _=>rfl) h
theorem Tryz.infoI3:(Tryz.prog.info? 3).map (fun i=>(i.zero,i.size,i.bytes))=some (some (.int .i64 0),1,8):=by kernel_rfl
theorem Tryz.infoF105:(Tryz.prog.info? 105).map (fun i=>(i.zero,i.size,i.bytes))=some (some (.agg #[.int .i64 0,.int .i64 0,.int .i64 0,.int .i64 0,.int .i64 0]),5,40):=by kernel_rfl
theorem f_z (a:Option Addr) (n c:Nat) (ys:List Fr) (w:World) (S:Vs repFr Any w a n ys) (hc:Cap a n c) (hn:n≤1000) :
  Calls Tryz.prog 88 #[.slice a n c] w (s_q 105 repFr e_g ys w):=by
 obtain ⟨i0,hi,hz0,hz1,hz2⟩:=N224;have HI:=N47;have Hn:=hid S.1;have HS:=hid S;have q:=fun w=>d_R 44 105 a n c Tryz.underlying44 w
 clear hi hz0 hz1 hz2 S
 cases a with
 | none =>
  obtain rfl:c=0:=hc.2.2 rfl;obtain rfl:n=0:=by have:=hc.1;omega
  obtain rfl:ys=[]:=List.eq_nil_of_length_eq_zero Hn.out;clear hc
  go_enter Tryz.func88,Tryz.ntmps88
  go_wp2
  go_ret
  exact ⟨none,0,rfl,b_W,World.ownsRow_nil _ _ _ _,d_h,Below.refl _ _⟩
 | some p =>
  have hc1:=hc.1;have hc2:=hc.2.1;clear hc
  go_enter Tryz.func88,Tryz.ntmps88
  go_wp2_with (at_builtin;refine wpList_append_own _ rfl _ _ 44 rfl w.heap.size 105 i0 (.agg #[.int .i64 0,.int .i64 0,.int .i64 0,.int .i64 0,.int .i64 0]) 5 40 Tryz.underlying44 HI.out.1 HI.out.2.1 HI.out.2.2.1 HI.out.2.2.2 rfl (by decide) _ 0 [] rfl (World.ownsRow_made w #[] 0 (Nat.le_refl _) (by decide) (by simp)) p n c (ys.flatMap e_g) rfl ?c1 ?c2 ?c3 ?c4 ?c5 ?c6 ?_)
  case c1=>rw [o_H,Hn.out]
  case c2=>exact i_r (u_R _ HS.out) p rfl
  case c3=>exact p_a _
  case c4=>unfold maxLen;omega
  case c5=>omega
  case c6=>simp
  intro v' w1 hown' hgrow _;have hb':=((Below.refl w.heap.size w).alloc (Nat.le_refl _) (.cells #[] 105)).grown hgrow (by simp) (fun r hr=>by cases hr;simp);have ⟨HO,HB⟩:=hh2 hown' hb';clear hown' hb' hgrow
  go_wp2
  go_ret
  exact l_9 (r:=repFr) (f:=e_g) Hn.out HO.out (f_P ys) HB.out
theorem f_A (a:Option Addr) (n c:Nat) (ys:List Int) (w:World) (S:Vs repInt Any w a n ys) (hc:Cap a n c) (hn:n≤1000) :
  Calls Tryz.prog 85 #[.slice a n c] w (s_q 3 repInt p_3 ys w):=by
 obtain ⟨i0,hi,hz0,hz1,hz2⟩:=info_parts Tryz.infoI3;have HI:=N47;have Hn:=hid S.1;have HS:=hid S;have q:=fun w=>d_R 23 3 a n c Tryz.underlying23 w
 clear hi hz0 hz1 hz2 S
 cases a with
 | none =>
  obtain rfl:c=0:=hc.2.2 rfl;obtain rfl:n=0:=by have:=hc.1;omega
  obtain rfl:ys=[]:=List.eq_nil_of_length_eq_zero Hn.out;clear hc
  go_enter Tryz.func85,Tryz.ntmps85
  go_wp2
  go_ret
  exact ⟨none,0,rfl,b_W,World.ownsRow_nil _ _ _ _,d_h,Below.refl _ _⟩
 | some p =>
  have hc1:=hc.1;have hc2:=hc.2.1;clear hc
  go_enter Tryz.func85,Tryz.ntmps85
  go_wp2_with (at_builtin;refine wpList_append_own _ rfl _ _ 23 rfl w.heap.size 3 i0 (.int .i64 0) 1 8 Tryz.underlying23 HI.out.1 HI.out.2.1 HI.out.2.2.1 HI.out.2.2.2 rfl (by decide) _ 0 [] rfl (World.ownsRow_made w #[] 0 (Nat.le_refl _) (by decide) (by simp)) p n c (ys.flatMap p_3) rfl ?c1 ?c2 ?c3 ?c4 ?c5 ?c6 ?_)
  case c1=>rw [q_U,Hn.out,Nat.mul_one]
  case c2=>exact p_O (u_R _ HS.out) p rfl
  case c3=>exact r_b _
  case c4=>unfold maxLen;omega
  case c5=>omega
  case c6=>simp
  intro v' w1 hown' hgrow _;have hb':=N86;have ⟨HO,HB⟩:=hh2 hown' hb';clear hown' hb' hgrow
  go_wp2
  go_ret
  exact l_9 (r:=repInt) (f:=p_3) Hn.out HO.out (h_d ys) HB.out
def u_U (t:Thr) (w:World) (e:Ending) (w':World):Prop:=
 ∃ fa fc la lc,e=.returned (.agg (thC t fa t.fs.length fc la t.lf.length lc).toArray)∧Cap fa t.fs.length fc∧w'.ownsRow w.heap.size 105 5 (.slice fa t.fs.length fc) t.fs.length (t.fs.flatMap e_g) ∧
  Vs repFr (fun b=>w.heap.size≤b) w' fa t.fs.length t.fs∧Cap la t.lf.length lc∧Vs repInt (fun b=>w.heap.size≤b∧(Value.slice fa t.fs.length fc).ownBlock≠some b) w' la t.lf.length t.lf∧Below w.heap.size w w'
theorem h_6 (t:Thr) (fa la:Option Addr) (fn fc ln lc:Nat) (w:World) (F:ThF w fa fn fc la ln lc t) (h1:fn≤1000) (h2:ln≤1000) :
  Calls Tryz.prog 165 #[.agg (thC t fa fn fc la ln lc).toArray] w (u_U t w):=by
 obtain ⟨W,hW⟩:=nm ((w.alloc (Obj.cells (thC t fa fn fc la ln lc).toArray 46)).alloc (Obj.cells thN.toArray 46));have X:=N51;have R:=N14;have hB:=N2;have hz:=N85;have C1:=F.fcap;have C2:=F.lcap;have S1:=g_u hB F.fs;have S2:=a_B (a_C hB) (s_i F.lf);have ⟨HX,HR,HB,HW,HZ⟩:=hh5 X R hB hW hz;clear hW X R hB F hz
 go_enter Tryz.func165,Tryz.ntmps165
 exact J1
end Go.Proofs.YtogdpojnbgeknaaGreatDoor
