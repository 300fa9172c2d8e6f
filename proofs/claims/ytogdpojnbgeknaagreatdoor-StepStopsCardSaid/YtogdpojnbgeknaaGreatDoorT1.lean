import Derived.Test.YtogdpojnbgeknaaGreatDoorRows
import Derived.WalkKit
import Derived.ProofKit
import Derived.Handy
import Derived.Lib.Hide
import Derived.Carry
import Derived.Deep.Slices
import Derived.Deep.Strs
import Derived.Laws.IdiomCopy
import Derived.Test.YtogdpojnbgeknaaGreatDoorT0
namespace Go.Proofs.YtogdpojnbgeknaaGreatDoor.Gen
open Go.ChangeShapes Go.WideShapes Go.ChangeAt Go.RowKit
theorem b_P {w:World} {a:Addr} {v:Value} (h:w.cell? a=some v):a.block < w.heap.size:=by
 apply Classical.byContradiction
 intro hn;have:w.heap[a.block]?=none:=by simp;omega
 simp [World.cell?,this] at h
def Kept (Q:Nat→Prop) (w w':World):Prop:=∀ (b o:Nat) (v:Value),Q b→w.cell? ⟨b,o,none⟩=some v→w'.cell? ⟨b,o,none⟩=some v
theorem o_r (Q:Nat→Prop) (w:World):Kept Q w w:=fun _ _ _ _ h=>h
theorem a_6 {Q:Nat→Prop} {w w' w2:World} (h:Kept Q w w') (h':Kept Q w' w2):Kept Q w w2:=fun b o v hq hv=>h' b o v hq (h b o v hq hv)
theorem a_C {Q:Nat→Prop} {w w':World} (hb:Below w.heap.size w w'):Kept Q w w':=fun b o v _ h=>by
 rw [hb.cell (p:=⟨b,o,none⟩) (b_P h)];exact h
theorem e_u {Q:Nat→Prop} (w:World) (o:Obj):Kept Q w (w.alloc o):=fun b k v _ h=>by
 rw [World.cell?_alloc_lt _ _ _ (b_P h)];exact h
theorem t_N {Q:Nat→Prop} (w:World):Kept Q w w.drew:=fun _ _ _ _ h=>h
theorem a_T {Q:Nat→Prop} (w:World) (p:Addr) (x:Value) (hp:∀ b,Q b→b≠p.block):Kept Q w (w.setCell p x):=fun b o v hq hv=>by
 rw [World.cell?_setCell_other]
 ·exact hv
 ·intro e;exact hp b hq (congrArg Addr.block e).symm
theorem c_o {F:Nat} {Q:Nat→Prop} {w w':World} (hb:Below F w w') (hQ:∀ b,Q b→b < F):Kept Q w w':=fun b o v hq h=>by
 rw [hb.cell (p:=⟨b,o,none⟩) (hQ b hq)];exact h
structure Rep (α:Type) where
 R:(Nat→Prop)→World→List Value→α→Prop
 k:Nat
 pos:0 < k
 len:∀ {Q w cs y},R Q w cs y→cs.length=k
 keep:∀ {Q w w' cs y},Kept Q w w'→R Q w cs y→R Q w' cs y
 mono:∀ {Q Q' w cs y},(∀ b,Q b→Q' b)→R Q w cs y→R Q' w cs y
 und:∀ {Q w cs y},R Q w cs y→R (fun b=>Q b∧b < w.heap.size) w cs y
def At {α:Type} (r:Rep α) (Q:Nat→Prop) (w:World) (b o:Nat) (y:α):Prop:=
 ∃ cs,r.R Q w cs y∧∀ j v,cs[j]?=some v→w.cell? ⟨b,o+j,none⟩=some v
def Vs {α:Type} (r:Rep α) (Q:Nat→Prop) (w:World) (a:Option Addr) (n:Nat) (ys:List α):Prop:=
 ys.length=n∧(n=0∨∃ b o,a=some ⟨b,o,none⟩∧Q b∧∀ i y,ys[i]?=some y→At r Q w b (o+i*r.k) y)
def Any (_:Nat):Prop:=True
section
variable {α:Type} {r:Rep α} {Q Q':Nat→Prop} {w w':World} {a:Option Addr} {n b o:Nat} {ys:List α} {y:α}
theorem n_L (hb:Q b) (hk:Kept Q w w') (h:At r Q w b o y):At r Q w' b o y:=by
 obtain ⟨cs,h1,h2⟩:=h;exact ⟨cs,r.keep hk h1,fun j v hj=>hk _ _ _ hb (h2 j v hj)⟩
theorem s_b (hQ:∀ b,Q b→Q' b) (h:At r Q w b o y):At r Q' w b o y:=by
 obtain ⟨cs,h1,h2⟩:=h;exact ⟨cs,r.mono hQ h1,h2⟩
theorem a_z (hk:Kept Q w w') (h:Vs r Q w a n ys):Vs r Q w' a n ys:=by
 obtain ⟨h1,h2⟩:=h;refine ⟨h1,h2.imp id ?_⟩;rintro ⟨b,o,e,hq,f⟩;exact ⟨b,o,e,hq,fun i y hi=>n_L hq hk (f i y hi)⟩
theorem b_e (hQ:∀ b,Q b→Q' b) (h:Vs r Q w a n ys):Vs r Q' w a n ys:=by
 obtain ⟨h1,h2⟩:=h;refine ⟨h1,h2.imp id ?_⟩;rintro ⟨b,o,e,hq,f⟩;exact ⟨b,o,e,hQ b hq,fun i y hi=>s_b hQ (f i y hi)⟩
theorem d_3 (h:Vs r Q w a n ys):Vs r Any w a n ys:=b_e (fun _ _=>trivial) h
theorem d_c:Vs r Q w none 0 ([]:List α):=⟨rfl,.inl rfl⟩
theorem g_B (hb:Below w.heap.size w w') (h:Vs r Q w a n ys):Vs r Q w' a n ys:=a_z (a_C hb) h
theorem u_r (ob:Obj) (h:Vs r Q w a n ys):Vs r Q (w.alloc ob) a n ys:=a_z (e_u w ob) h
theorem p_6 (h:At r Q w b o y):∃ v,w.cell? ⟨b,o,none⟩=some v:=by
 obtain ⟨cs,h1,h2⟩:=h;have hl:=r.len h1;have hp:=r.pos;obtain ⟨v,hv⟩:∃ v,cs[0]?=some v:=⟨cs[0]'(by omega),by simp [show 0 < cs.length by omega]⟩;exact ⟨v,h2 0 v hv⟩
theorem c_O (h:Vs r Q w a n ys):Vs r (fun b=>Q b∧b < w.heap.size) w a n ys:=by
 obtain ⟨h1,h2⟩:=h
 by_cases h0:n=0
 ·exact ⟨h1,.inl h0⟩
 ·obtain ⟨b,o,e,hq,f⟩:=h2.resolve_left h0;refine ⟨h1,.inr ⟨b,o,e,⟨hq,?_⟩,fun i y hi=>?_⟩⟩
  ·obtain ⟨y,hy⟩:∃ y,ys[0]?=some y:=⟨ys[0]'(by omega),by simp [show 0 < ys.length by omega]⟩;obtain ⟨v,hv⟩:=p_6 (f 0 y hy);exact b_P hv
  ·obtain ⟨cs,h3,h4⟩:=f i y hi;exact ⟨cs,r.und h3,h4⟩
theorem r_X (h:Vs r Any w a n ys):Vs r (fun b=>b < w.heap.size) w a n ys:=b_e (fun _ h=>h.2) (c_O h)
theorem j_P (h:Vs r Q w a n ys) {i:Nat} (hi:i < n):∃ b o y,a=some ⟨b,o,none⟩∧ys[i]?=some y∧Q b∧At r Q w b (o+i*r.k) y:=by
 obtain ⟨h1,h2⟩:=h;obtain ⟨b,o,e,hq,f⟩:=h2.resolve_left (by omega);have hy:ys[i]?=some (ys[i]'(by omega)):=by simp [show i < ys.length by omega]
 exact ⟨b,o,_,e,hy,hq,f i _ hy⟩
theorem h_r (h:Vs r Q w a n ys) (m:Nat) (hm:m≤n):Vs r Q w a m (ys.take m):=by
 obtain ⟨h1,h2⟩:=h;refine ⟨by rw [List.length_take];omega,?_⟩
 by_cases h0:m=0
 ·exact .inl h0
 ·obtain ⟨b,o,e,hq,f⟩:=h2.resolve_left (by omega);refine .inr ⟨b,o,e,hq,fun i y hi=>f i y ?_⟩;rw [List.getElem?_take] at hi
  split at hi
  ·exact hi
  ·cases hi
def d_s (r:Rep α) (Q:Nat→Prop) (w:World):List Value→List α→Prop
 | cs,[]=>cs=[]
 | cs,y::ys=>∃ c d,cs=c++d∧r.R Q w c y∧d_s r Q w d ys
theorem b_m (hk:Kept Q w w'):∀ {ys:List α} {cs:List Value},d_s r Q w cs ys→d_s r Q w' cs ys
 | [],_,h=>h
 | _::_,_,⟨c,d,e,h1,h2⟩=>⟨c,d,e,r.keep hk h1,b_m hk h2⟩
theorem c_l (hQ:∀ b,Q b→Q' b):∀ {ys:List α} {cs:List Value},d_s r Q w cs ys→d_s r Q' w cs ys
 | [],_,h=>h
 | _::_,_,⟨c,d,e,h1,h2⟩=>⟨c,d,e,r.mono hQ h1,c_l hQ h2⟩
theorem b_f:∀ {ys:List α} {cs:List Value},d_s r Q w cs ys→cs.length=ys.length*r.k
 | [],_,h=>by rw [show _=[] from h];simp
 | y::ys,_,⟨c,d,e,h1,h2⟩=>by
  rw [e,List.length_append,r.len h1,b_f h2,List.length_cons,Nat.add_mul,Nat.one_mul,Nat.add_comm]
theorem e_J {c:List Value} (h:r.R Q w c y):∀ {ys:List α} {cs:List Value},d_s r Q w cs ys→d_s r Q w (cs++c) (ys++[y])
 | [],_,e=>by
  rw [show _=[] from e];exact ⟨c,[],by simp,h,rfl⟩
 | _::_,_,⟨c',d,e,h1,h2⟩=>⟨c',d++c,by rw [e,List.append_assoc],h1,e_J h h2⟩
theorem f_3:∀ {ys:List α} {cs:List Value},d_s r Q w cs ys→∀ i y,ys[i]?=some y→∃ c,r.R Q w c y∧∀ j v,c[j]?=some v→cs[i*r.k+j]?=some v
 | [],_,_,i,y,hi=>by simp at hi
 | y'::ys,_,⟨c,d,e,h1,h2⟩,0,y,hi=>by
  obtain rfl:y'=y:=by simpa using hi
  refine ⟨c,h1,fun j v hj=>?_⟩;subst e;rw [Nat.zero_mul,Nat.zero_add,List.getElem?_append_left (by have:=List.getElem?_eq_some_iff.1 hj;exact this.1)];exact hj
 | y'::ys,_,⟨c,d,e,h1,h2⟩,i+1,y,hi=>by
  obtain ⟨c',h3,h4⟩:=f_3 h2 i y (by simpa using hi);refine ⟨c',h3,fun j v hj=>?_⟩;subst e;have hl:=r.len h1;rw [List.getElem?_append_right (by rw [hl,Nat.add_mul];omega),hl];have:=h4 j v hj;rw [show (i+1)*r.k+j - r.k=i*r.k+j by rw [Nat.add_mul];omega];exact this
theorem e_v {B:Nat} {e:TypeId} {v:Value} {cs:List Value} (h:w.ownsRow B e r.k v n cs) (hf:d_s r Q w cs ys) (hQ:∀ b,B≤b→b < w.heap.size→Q b) :
  ∃ a c,v=.slice a n c∧n≤c∧c≤9223372036854775807∧(a=none→c=0)∧Vs r Q w a n ys:=by
 obtain ⟨hl,h⟩:=h
 have hl':ys.length=n:=by
  have:=b_f hf;rw [this] at hl;exact Nat.eq_of_mul_eq_mul_right r.pos hl
 rcases h with ⟨rfl,h0⟩ | ⟨g,cap,cur,rfl,hb,hg,hn,hm,hs,ht⟩
 ·exact ⟨none,0,by rw [h0],by omega,by omega,fun _=>rfl,hl',.inl h0⟩
 ·unfold maxLen at hm
  have hlt:g < w.heap.size:=by
   have:=Array.getElem?_eq_some_iff.1 hg;exact this.1
  refine ⟨_,_,rfl,hn,by omega,(fun e=>by cases e),hl',.inr ⟨g,0,rfl,hQ g hb hlt,fun i y hi=>?_⟩⟩;obtain ⟨c,h1,h2⟩:=f_3 hf i y hi;refine ⟨c,h1,fun j v hj=>?_⟩;have e:=h2 j v hj;rw [←ht,List.getElem?_take] at e
  split at e
  ·simp only [World.cell?,hg];rw [Nat.zero_add]
   simpa using e
  ·cases e
end
def u_a {α:Type} (f:α→Value):Rep α where
 R _ _ cs y:=cs=[f y]
 k:=1
 pos:=by decide
 len h:=by rw [h];rfl
 keep _ h:=h
 mono _ h:=h
 und h:=h
def q_3 {α:Type} (k:Nat) (hk:0 < k) (f:α→List Value) (hf:∀ y,(f y).length=k):Rep α where
 R _ _ cs y:=cs=f y
 k:=k
 pos:=hk
 len h:=by rw [h];exact hf _
 keep _ h:=h
 mono _ h:=h
 und h:=h
def repInt:Rep Int:=u_a (.int .i64)
def u_C (y:Int×Int):List Value:=[.int .i64 y.1,.int .i64 y.2]
def e_U:Rep (Int×Int):=q_3 2 (by decide) u_C (fun _=>rfl)
section
variable {Q:Nat→Prop} {w:World} {b o:Nat}
theorem n_K {z:Int} (h:At repInt Q w b o z):w.cell? ⟨b,o,none⟩=some (.int .i64 z):=by
 obtain ⟨cs,h1,h2⟩:=h;have h1:cs=[.int .i64 z]:=h1;subst h1;exact h2 0 _ rfl
end
theorem g_2 {α:Type} (f:α→Value) {Q:Nat→Prop} {w:World}:∀ (ys:List α),d_s (u_a f) Q w (ys.map f) ys
 | []=>rfl
 | y::ys=>⟨[f y],ys.map f,rfl,rfl,g_2 f ys⟩
theorem p_y {α:Type} {f:α→Value} {Q:Nat→Prop} {w:World} {a:Option Addr} {n:Nat} {ys:List α} (h:Vs (u_a f) Q w a n ys):∀ b,a=some b→∀ j u,(ys.map f)[j]?=some u→w.cell? (b.add j)=some u:=by
 intro b hb j u hu;obtain ⟨h1,h2⟩:=h;have hj:j < ys.length:=by simpa using (List.getElem?_eq_some_iff.1 hu).1
 obtain ⟨b',o,e,_,r⟩:=h2.resolve_left (by omega);rw [hb] at e
 injection e with e
 subst e;obtain ⟨cs,e1,e2⟩:=r j _ (List.getElem?_eq_getElem hj);have e1:cs=[f ys[j]]:=e1;subst e1;have h3:=e2 0 _ rfl;have hu':f ys[j]=u:=by simpa [hj] using hu
 rw [←hu']
 have e3:(⟨b',o,none⟩:Addr).add j=⟨b',o+j,none⟩:=by
  simp only [Addr.add];split
  ·subst_vars;rfl
  ·rfl
 rw [e3]
 simpa [u_a] using h3
section
variable {H:Type} {enc:TypeId×Value→H} {P:Program} {w:World} {base:Nat} {spare:Nat→Bool} {held:Bool}
def p_U {α:Type} (r:Rep α) (ok:α→Prop) (enc:TypeId×Value→H) (P:Program) (w:World) (base:Nat) (spare:Nat→Bool) (held:Bool) (e:TypeId):Prop:=
 ∀ fuel cs x,DataW.trod enc P w base spare held fuel e cs=some x→∃ y,r.R Any w cs y∧ok y
theorem o_2 {t:TypeId} (ht:P.underlying t=some (.int .i64)):p_U repInt (fun z=>(Lit.int .i64 z).wf=true) enc P w base spare held t:=by
 intro fuel cs x h;obtain ⟨n,h1,_,h2⟩:=DataW.trod_int ht h;exact ⟨n,h1,h2⟩
def t_6 {α:Type} (r:Rep α) (ok:α→Prop) (w:World) (a:Option Addr) (len cap:Nat) (ys:List α):Prop:=
 len≤cap∧cap≤9223372036854775807∧(a=none→cap=0)∧Vs r Any w a len ys∧∀ y∈ys,ok y
theorem add_plain (b off j:Nat):(⟨b,off,none⟩:Addr).add j=⟨b,off+j,none⟩:=by
 simp only [Addr.add];split
 ·subst_vars;rfl
 ·rfl
theorem f_t {α:Type} {r:Rep α} {ok:α→Prop} {t e:TypeId} (ht:P.underlying t=some (.slice e)) (hk:P.cellsOf e=r.k) (ho:p_U r ok enc P w base spare held e) [Inhabited α] :
  ∀ fuel cs x,DataW.trod enc P w base spare held fuel t cs=some x→∃ a len cap ys,cs=[.slice a len cap]∧t_6 r ok w a len cap ys:=by
 intro fuel cs x h
 rcases Go.Deep.open_slice ht h with ⟨hcs,_⟩ | ⟨a,len,cap,m,n,D,Pl,hcs,_,hl,hm,hmm,_,hc⟩
 ·exact ⟨none,0,0,[],hcs,Nat.le_refl _,by omega,fun _=>rfl,d_c,by simp⟩
 ·unfold maxLen at hm;have hlm:len≤m:=by rw [hmm];split <;> omega
  rw [hk] at hc
  have each:∀ i,i < len→∃ y:α,(∃ cs',w.cells? base (a.add (i*r.k)) r.k=some cs'∧r.R Any w cs' y)∧ok y:=by
   intro i hi;obtain ⟨cs',h1,h2⟩:=hc i (by omega);obtain ⟨y,h3,h4⟩:=ho _ _ _ h2;exact ⟨y,⟨cs',h1,h3⟩,h4⟩
  obtain ⟨f,hf⟩:=Go.Deep.choose_lt each;refine ⟨some a,len,cap,(List.range len).map f,hcs,hl,by omega,(fun e=>by cases e),⟨by simp,?_⟩,?_⟩
  ·by_cases h0:len=0
   ·exact .inl h0
   ·right
    obtain ⟨b,o,s⟩:=a
    have hs:s=none:=by
     obtain ⟨⟨cs',h1,h3⟩,_⟩:=hf 0 (by omega);obtain ⟨_,hlen,hcell⟩:=World.cells?_some h1;have hp:=r.pos;have h5:=hcell 0 (by omega);rw [Go.Deep.add_add,Nat.zero_mul,List.getElem?_eq_getElem (by omega)] at h5
     simpa [Addr.add] using World.cell?_spot h5
    subst hs;refine ⟨b,o,rfl,trivial,fun i y hi=>?_⟩
    have hil:i < len:=by
     have:=(List.getElem?_eq_some_iff.1 hi).1
     simpa using this
    have hy:f i=y:=by simpa [hil] using hi
    obtain ⟨⟨cs',h1,h3⟩,_⟩:=hf i hil;rw [hy] at h3;obtain ⟨_,hlen,hcell⟩:=World.cells?_some h1;refine ⟨cs',h3,fun j v hj=>?_⟩
    have hjl:j < r.k:=by
     have:=(List.getElem?_eq_some_iff.1 hj).1
     omega
    have h5:=hcell j hjl;rw [Go.Deep.add_add,add_plain] at h5;rw [Nat.add_assoc,h5,hj]
  ·intro y hy;obtain ⟨i,hi,rfl⟩:=List.mem_map.1 hy;exact (hf i (by simpa using hi)).2
end
theorem k_v (w:World) (o:Obj) (g:Nat) (hg:g=w.heap.size):(w.alloc o).heap[g]?=some o:=by
 subst hg;show (w.heap.push o)[w.heap.size]?=some o;simp
def a_p (w:World) (g:Nat) (vs:List Value):Prop:=∀ i v,vs[i]?=some v→w.cell? ⟨g,i,none⟩=some v∧w.frozen? ⟨g,i,none⟩=false
section
variable {w w':World} {g:Nat} {vs xs:List Value}
theorem a_e (vs:List Value) {t:TypeId} (g:Nat) (hg:g=w.heap.size):a_p (w.alloc (.cells vs.toArray t)) g vs:=by
 intro i v hi;have hh:=k_v w (.cells vs.toArray t) g hg;refine ⟨?_,by simp [World.frozen?,hh]⟩;simp only [World.cell?,hh]
 simpa using hi
theorem a_P (h:a_p w g vs) (h0:0 < vs.length):g < w.heap.size:=by
 obtain ⟨v,hv⟩:∃ v,vs[0]?=some v:=⟨vs[0],by simp [h0]⟩;exact b_P (h 0 v hv).1
theorem i_Q {F:Nat} (hb:Below F w w') (hg:g < F) (h:a_p w g vs):a_p w' g vs:=fun i v hi =>
 ⟨(hb.cell (p:=⟨g,i,none⟩) hg).trans (h i v hi).1,(hb.frozen (p:=⟨g,i,none⟩) hg).trans (h i v hi).2⟩
theorem a_i (hb:Below w.heap.size w w') (h:a_p w g vs):a_p w' g vs:=fun i v hi =>
 i_Q hb (b_P (h i v hi).1) h i v hi
theorem a_s (o:Obj) (h:a_p w g vs):a_p (w.alloc o) g vs:=a_i ((Below.refl _ _).alloc (Nat.le_refl _) _) h
theorem b_J (h:a_p w g vs):a_p w.drew g vs:=a_i (Below.refl _ _).drew h
theorem a_m {g' o:Nat} (h:a_p w g vs) (hne:g'≠g) (x:Value):a_p (w.setCell ⟨g',o,none⟩ x) g vs:=fun i v hi=>by
 obtain ⟨h1,h2⟩:=h i v hi;refine ⟨?_,by rw [World.frozen?_setCell];exact h2⟩;rw [World.cell?_setCell_other _ _ _ _ (fun e=>hne (congrArg Addr.block e))];exact h1
theorem a_A (h:a_p w g vs) (i:Nat) (hi:i < vs.length) (x:Value):a_p (w.setCell ⟨g,i,none⟩ x) g (vs.set i x):=by
 intro j v hj;rw [List.getElem?_set] at hj
 by_cases e:i=j
 ·subst e;rw [if_pos rfl,if_pos hi] at hj;obtain rfl:x=v:=by injection hj
  obtain ⟨u,hu⟩:∃ u,vs[i]?=some u:=⟨vs[i],by simp [hi]⟩;obtain ⟨h1,h2⟩:=h i u hu;exact ⟨World.cell?_setCell_same' _ _ _ (by rw [h1];rfl),by rw [World.frozen?_setCell];exact h2⟩
 ·rw [if_neg e] at hj;obtain ⟨h1,h2⟩:=h j v hj;refine ⟨?_,by rw [World.frozen?_setCell];exact h2⟩;rw [World.cell?_setCell_other _ _ _ _ (fun h=>e (congrArg Addr.off h))];exact h1
def d_o (w:World) (g:Nat):Nat→List Value→World
 | _,[]=>w
 | k,x::xs=>d_o (w.setCell ⟨g,k,none⟩ x) g (k+1) xs
theorem b_b:∀ {xs:List Value} {w:World} {vs:List Value} (k:Nat),a_p w g vs→k+xs.length≤vs.length→a_p (d_o w g k xs) g (vs.take k++xs++vs.drop (k+xs.length))
 | [],w,vs,k,h,_=>by simpa [d_o] using h
 | x::xs,w,vs,k,h,hl=>by
  rw [List.length_cons] at hl;have h1:=a_A h k (by omega) x;have h2:=b_b (xs:=xs) (k+1) h1 (by rw [List.length_set];omega)
  have e:(vs.set k x).take (k+1)++xs++(vs.set k x).drop (k+1+xs.length)=vs.take k++(x::xs)++vs.drop (k+(x::xs).length):=by
   rw [List.take_succ_eq_append_getElem (by rw [List.length_set];omega),List.getElem_set_self,List.take_set_of_le (Nat.le_refl _),List.drop_set_of_lt (by omega),List.length_cons];simp [Nat.add_comm,Nat.add_left_comm]
  rw [e] at h2;exact h2
theorem a_q (h:a_p w g vs) (hl:xs.length=vs.length):a_p (d_o w g 0 xs) g xs:=by
 have:=b_b (xs:=xs) 0 h (by omega)
 simpa [hl] using this
theorem a_h {F:Nat} (hg:F≤g):∀ {xs:List Value} {w0 w:World} {k:Nat},Below F w0 w→Below F w0 (d_o w g k xs)
 | [],_,_,_,h=>h
 | x::xs,w0,w,k,h=>by
  show Below F w0 (d_o (w.setCell ⟨g,k,none⟩ x) g (k+1) xs)
  exact a_h hg (h.setCell (p:=⟨g,k,none⟩) hg x)
theorem a_t {Q:Nat→Prop} (hQ:∀ b,Q b→b≠g):∀ {xs:List Value} {w:World} {k:Nat},Kept Q w (d_o w g k xs)
 | [],_,_=>o_r _ _
 | x::xs,w,k=>by
  show Kept Q w (d_o (w.setCell ⟨g,k,none⟩ x) g (k+1) xs)
  exact a_6 (a_T w ⟨g,k,none⟩ _ (fun b hb=>hQ b hb)) (a_t hQ)
theorem a_j {g':Nat} (hne:g'≠g):∀ {xs:List Value} {w:World} {k:Nat},a_p w g vs→a_p (d_o w g' k xs) g vs
 | [],_,_,h=>h
 | x::xs,w,k,h=>by
  show a_p (d_o (w.setCell ⟨g',k,none⟩ x) g' (k+1) xs) g vs
  exact a_j hne (a_m h hne _)
end
theorem e_6 (w:World) (g:Nat):∀ (vs:List Value) (k:Nat),w.setCells g k vs=d_o w g k vs:=by
 intro vs
 induction vs generalizing w with
 | nil=>intro k;rfl
 | cons v vs ih=>intro k;exact ih _ _
section
variable {w w':World} {B:Nat} {e:TypeId} {size:Nat} {v:Value} {n:Nat} {xs:List Value}
theorem a_8 (h:w.ownsRow B e size v n xs) (hb:Below w.heap.size w w'):w'.ownsRow B e size v n xs:=
 h.kept (row:=none) ⟨hb.os,hb.tape,hb.output,hb.size,fun j hj _=>hb.block j hj⟩ (by cases hv:v.ownBlock <;> simp)
theorem a_9 (h:w.ownsRow B e size v n xs) {g:Nat} (hg:v.ownBlock=some g):B≤g∧g < w.heap.size:=h.lt g hg
theorem d_P (h:w.ownsRow B e size v n xs) (p:Addr) (hp:v.ownBlock≠some p.block) (x:Value):(w.setCell p x).ownsRow B e size v n xs:=by
 obtain ⟨h1,h2⟩:=h;refine ⟨h1,?_⟩
 rcases h2 with h2 | ⟨g,cap,cur,hv,hg,hh,r⟩
 ·exact Or.inl h2
 ·refine Or.inr ⟨g,cap,cur,hv,hg,?_,r⟩;rw [Below.heap_setCell _ _ _ _ (fun e=>hp (by rw [hv];exact congrArg some e))];exact hh
theorem c_D (h:w.ownsRow B e size v n xs):∃ a c,v=.slice a n c:=by
 exact J67
theorem r_O {B':Nat} (h:w.ownsRow B e size v n xs) (hb:B'≤B):w.ownsRow B' e size v n xs:=
 ⟨h.1,h.2.imp id fun ⟨g,cap,cur,h1,h2,h3⟩=>⟨g,cap,cur,h1,Nat.le_trans hb h2,h3⟩⟩
theorem b_Z {p:Addr} (h:w.ownsRow B e size v n xs) (hp:w.heap.size≤p.block∨p.block < B):v.ownBlock≠some p.block:=fun e=>by
 have:=a_9 h e;omega
theorem a_Z {g:Nat} (hne:v.ownBlock≠some g):∀ {us:List Value} {w:World} {k:Nat},w.ownsRow B e size v n xs→(d_o w g k us).ownsRow B e size v n xs
 | [],_,_,h=>h
 | u::us,w,k,h=>by
  show (d_o (w.setCell ⟨g,k,none⟩ u) g (k+1) us).ownsRow B e size v n xs
  exact a_Z hne (d_P h ⟨g,k,none⟩ hne u)
end
section
variable {w w':World} {row:Option Nat}
theorem h_X (hg:w.grownBy w' row) {b:Nat} (hb:b < w.heap.size) (hne:row≠some b) (o:Nat):w'.cell? ⟨b,o,none⟩=w.cell? ⟨b,o,none⟩∧w'.frozen? ⟨b,o,none⟩=w.frozen? ⟨b,o,none⟩:=
 ⟨World.cell?_of_block (a:=⟨b,o,none⟩) (hg.block b hb (fun e=>hne e.symm)),World.frozen?_of_block (a:=⟨b,o,none⟩) (hg.block b hb (fun e=>hne e.symm))⟩
theorem b_A {g:Nat} {vs:List Value} (hg:w.grownBy w' row) (hne:row≠some g) (h:a_p w g vs):a_p w' g vs:=fun i v hi=>by
 obtain ⟨h1,h2⟩:=h i v hi;obtain ⟨e1,e2⟩:=h_X hg (b_P h1) hne i;exact ⟨e1.trans h1,e2.trans h2⟩
theorem c_Y {Q:Nat→Prop} (hg:w.grownBy w' row) (hQ:∀ b,Q b→row≠some b):Kept Q w w':=fun b o v hq h=>by
 rw [(h_X hg (b_P h) (hQ b hq) o).1];exact h
end
end Go.Proofs.YtogdpojnbgeknaaGreatDoor.Gen
namespace Go.Proofs.YtogdpojnbgeknaaGreatDoor
open Go.ChangeShapes Go.WideShapes Go.ChangeAt Go.RowKit
theorem b_c {w:World} {a:Addr} {v:Value} (h:w.cell? a=some v):a.block < w.heap.size:=by
 apply Classical.byContradiction
 intro hn;have:w.heap[a.block]?=none:=by simp;omega
 simp [World.cell?,this] at h
theorem b_a {w:World} {a:Addr} {v:Value} (o:Obj) (h:w.cell? a=some v):(w.alloc o).cell? a=some v:=by
 rw [World.cell?_alloc_lt _ _ _ (b_c h)];exact h
theorem a_4 (w:World) (o:Obj) (g:Nat) (hg:g=w.heap.size):(w.alloc o).heap[g]?=some o:=by
 subst hg;show (w.heap.push o)[w.heap.size]?=some o;simp
theorem b_q (w:World) (o:Obj) (g:Nat) (hg:g < w.heap.size):(w.alloc o).heap[g]?=w.heap[g]?:=Below.heap_alloc w o g hg
theorem f_H (w:World):w.drew.heap=w.heap:=rfl
theorem d_H (w:World) (c cs:Array Value) (t:TypeId) (fr:Nat×Nat) (g:Nat) (hg:g=w.heap.size):(w.alloc (.cells c t fr)).setRow g cs=w.alloc (.cells cs t fr):=by
 subst hg;simp only [World.setRow,World.alloc]
 congr 1
 apply Array.ext
 ·simp
 ·intro i h1 h2;simp only [Array.getElem_modify,Array.getElem_push]
  split
  ·subst_vars;simp
  ·have:i < w.heap.size:=by simp at h2;omega
   simp [this]
theorem d_I (w:World) (o:Obj) (cs:Array Value) (g:Nat) (hg:g < w.heap.size):(w.alloc o).setRow g cs=(w.setRow g cs).alloc o:=by
 simp only [World.setRow,World.alloc]
 congr 1
 apply Array.ext
 ·simp
 ·intro i h1 h2;simp only [Array.getElem_modify,Array.getElem_push,Array.size_modify]
  split
  ·subst_vars;simp [hg]
  ·rfl
theorem h_k (w:World) (cs:Array Value) (g:Nat):w.drew.setRow g cs=(w.setRow g cs).drew:=rfl
theorem a_b {w w0 w1:World} (h0:Below w.heap.size w w0) (h:Below w0.heap.size w0 w1):Below w.heap.size w w1:=h0.trans (h.mono h0.size)
theorem g_x {W w1:World} (hb:Below W.heap.size W w1):(∀ b o,b < W.heap.size→w1.cell? ⟨b,o,none⟩=W.cell? ⟨b,o,none⟩)∧(∀ b o,b < W.heap.size→w1.frozen? ⟨b,o,none⟩=W.frozen? ⟨b,o,none⟩):=
 ⟨fun b o h=>hb.cell (p:=⟨b,o,none⟩) h,fun b o h=>hb.frozen (p:=⟨b,o,none⟩) h⟩
theorem a_u {w w':World} {a:Addr} {v:Value} (hb:Below w.heap.size w w') (h:w.cell? a=some v):w'.cell? a=some v:=by
 rw [hb.cell (b_c h)];exact h
theorem b_C {w:World} {b k:Nat} {c:Array Value} {t:TypeId} (h:w.heap[b]?=some (.cells c t)):w.frozen? ⟨b,k,none⟩=false:=by
 simp [World.frozen?,h]
theorem a_W {w:World} {c:Array Value} {t:TypeId} {fr:Nat×Nat} (g k:Nat) (v:Value) (hg:g=w.heap.size) (hv:c[k]?=some v):(w.alloc (.cells c t fr)).cell? ⟨g,k,none⟩=some v:=by
 simp only [World.cell?,a_4 w _ g hg]
 simpa using hv
theorem d_F {w:World} {g k:Nat} (o:Obj) (hg:g < w.heap.size):(w.alloc o).frozen? ⟨g,k,none⟩=w.frozen? ⟨g,k,none⟩:=by
 simp only [World.frozen?,b_q w o g hg]
theorem c_m {w:World} {c:Array Value} {t:TypeId} (g k:Nat) (hg:g=w.heap.size):(w.alloc (.cells c t)).frozen? ⟨g,k,none⟩=false:=b_C (a_4 w _ g hg)
def b_l (r:Bool) (w:World) (e:Ending) (w':World):Prop:=e=.returned (.bool r)∧Below w.heap.size w w'
theorem a_k {r s:Bool} {w w':World} (h:r=s) (hb:Below w.heap.size w w'):b_l r w (.returned (.bool s)) w':=by subst h;exact ⟨rfl,hb⟩
def g_Q (r:Bool) (w:World) (e:Ending) (w':World):Prop:=e=.returned (.bool r)∧w'=w
theorem c_P {r s:Bool} {w:World} (h:r=s):g_Q r w (.returned (.bool s)) w:=by subst h;exact ⟨rfl,rfl⟩
theorem a_l {fn:Func} {R:Ending→World→Prop} {a:Act} {w:World} {p u:Tmp} {ty:TypeId} {X:Value} (ad:Addr) (hr:fn.results=#[.cell p ty,.tmp u]) (hd:a.defers=[])
  (hp:a.tmps.getD p undef=.pointer (some ad)) (hl:(loadVar ty ad).run Tryz.prog w=.ok X w) (h:R (.returned (.tuple #[X,a.tmps.getD u undef])) w):bodyPost Tryz.prog fn R .ret a w:=by
 refine bodyPost_ret (v:=.tuple #[X,a.tmps.getD u undef]) ?_ hd h;rw [results_cell_tmp hr,hp];simp [asAddr,Result.andThen,hl]
theorem a_V {fn:Func} {R:Ending→World→Prop} {a:Act} {w:World} {p:Tmp} {ty:TypeId} {X:Value} (ad:Addr) (hr:fn.results=#[.cell p ty]) (hd:a.defers=[])
  (hp:a.tmps.getD p undef=.pointer (some ad)) (hl:(loadVar ty ad).run Tryz.prog w=.ok X w) (h:R (.returned X) w):bodyPost Tryz.prog fn R .ret a w:=by
 refine bodyPost_ret (v:=X) ?_ hd h;have hp':a.tmps[p]?.getD undef=.pointer (some ad):=by simpa using hp
 simp [results,hr,asAddr,hp',hl]
theorem b_O {fn:Func} {R:Ending→World→Prop} {a:Act} {w:World} {p u v:Tmp} {ty:TypeId} {X:Value} (ad:Addr) (hr:fn.results=#[.cell p ty,.tmp u,.tmp v]) (hd:a.defers=[])
  (hp:a.tmps.getD p undef=.pointer (some ad)) (hl:(loadVar ty ad).run Tryz.prog w=.ok X w) (h:R (.returned (.tuple #[X,a.tmps.getD u undef,a.tmps.getD v undef])) w):bodyPost Tryz.prog fn R .ret a w:=by
 refine bodyPost_ret (v:=.tuple #[X,a.tmps.getD u undef,a.tmps.getD v undef]) ?_ hd h;have hp':a.tmps[p]?.getD undef=.pointer (some ad):=by simpa using hp
 simp [results,hr,asAddr,hp',hl]
theorem f_T {P:Program} {ops:Array Oper} {o:Oper} {a:Act} {w:World} {K:Act→World→Prop} {Q:Exit→Act→World→Prop} {E:Prop}
  (hg:o.guard=none) (d s:Operand) (dT sT:TypeId) (hop:o.op=Op.call { callee:=Callee.builtin Builtin.copy,args:=#[d,s],argTypes:=#[dT,sT] })
  (vd vs v':Value) (w':World) (hd:a.eval d=vd) (hs:a.eval s=vs) (hr:(Builtin.copy_ #[dT,sT] o.type #[vd,vs]).run P w=.ok v' w') (hK:K (a.put o.dst v') w') :
  if Region.wanted o (yielded ops a.tmps)=true then Oper.wp P o a w K Q else E:=by
 have hw:=N225;rw [if_pos hw];unfold Oper.wp;simp [execOp,hop,resolve,invoke,builtin,hd,hs,hr,Result.andThen];exact hK
end Go.Proofs.YtogdpojnbgeknaaGreatDoor
