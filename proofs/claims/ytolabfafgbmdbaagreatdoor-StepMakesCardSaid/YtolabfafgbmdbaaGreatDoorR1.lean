import Derived.Test.YtolabfafgbmdbaaGreatDoorRows
import Derived.WalkKit
import Derived.ProofKit
import Derived.Handy
import Derived.Lib.Hide
import Derived.Carry
import Derived.Deep.Slices
import Derived.Deep.Strs
import Derived.Laws.IdiomCopy
import Derived.Test.YtolabfafgbmdbaaGreatDoorR0
namespace Go.Proofs.YtolabfafgbmdbaaGreatDoor.Gen
open Go.ChangeShapes Go.WideShapes Go.ChangeAt Go.RowKit
theorem b_g {w:World} {a:Addr} {v:Value} (h:w.cell? a=some v):a.block < w.heap.size:=by
 exact J95
def c_n (Q:Nat→Prop) (w w':World):Prop:=∀ (b o:Nat) (v:Value),Q b→w.cell? ⟨b,o,none⟩=some v→w'.cell? ⟨b,o,none⟩=some v
theorem l_X (Q:Nat→Prop) (w:World):c_n Q w w:=fun _ _ _ _ h=>h
theorem b_M {Q:Nat→Prop} {w w' w2:World} (h:c_n Q w w') (h':c_n Q w' w2):c_n Q w w2:=fun b o v hq hv=>h' b o v hq (h b o v hq hv)
theorem a_G {Q:Nat→Prop} {w w':World} (hb:Below w.heap.size w w'):c_n Q w w':=fun b o v _ h=>by
 rw [hb.cell (p:=⟨b,o,none⟩) (b_g h)];exact h
theorem h_N {Q:Nat→Prop} (w:World) (o:Obj):c_n Q w (w.alloc o):=fun b k v _ h=>by
 rw [World.cell?_alloc_lt _ _ _ (b_g h)];exact h
theorem b_e {Q:Nat→Prop} (w:World) (p:Addr) (x:Value) (hp:∀ b,Q b→b≠p.block):c_n Q w (w.setCell p x):=fun b o v hq hv=>by
 rw [World.cell?_setCell_other]
 ·exact hv
 ·intro e;exact hp b hq (congrArg Addr.block e).symm
theorem b_L {F:Nat} {Q:Nat→Prop} {w w':World} (hb:Below F w w') (hQ:∀ b,Q b→b < F):c_n Q w w':=fun b o v hq h=>by
 rw [hb.cell (p:=⟨b,o,none⟩) (hQ b hq)];exact h
structure Rep (α:Type) where
 R:(Nat→Prop)→World→List Value→α→Prop
 k:Nat
 pos:0 < k
 len:∀ {Q w cs y},R Q w cs y→cs.length=k
 keep:∀ {Q w w' cs y},c_n Q w w'→R Q w cs y→R Q w' cs y
 mono:∀ {Q Q' w cs y},(∀ b,Q b→Q' b)→R Q w cs y→R Q' w cs y
 und:∀ {Q w cs y},R Q w cs y→R (fun b=>Q b∧b < w.heap.size) w cs y
def At {α:Type} (r:Rep α) (Q:Nat→Prop) (w:World) (b o:Nat) (y:α):Prop:=
 ∃ cs,r.R Q w cs y∧∀ j v,cs[j]?=some v→w.cell? ⟨b,o+j,none⟩=some v
def Vs {α:Type} (r:Rep α) (Q:Nat→Prop) (w:World) (a:Option Addr) (n:Nat) (ys:List α):Prop:=
 ys.length=n∧(n=0∨∃ b o,a=some ⟨b,o,none⟩∧Q b∧∀ i y,ys[i]?=some y→At r Q w b (o+i*r.k) y)
def Any (_:Nat):Prop:=True
section
variable {α:Type} {r:Rep α} {Q Q':Nat→Prop} {w w':World} {a:Option Addr} {n b o:Nat} {ys:List α} {y:α}
theorem o_Y (hb:Q b) (hk:c_n Q w w') (h:At r Q w b o y):At r Q w' b o y:=by
 obtain ⟨cs,h1,h2⟩:=h;exact ⟨cs,r.keep hk h1,fun j v hj=>hk _ _ _ hb (h2 j v hj)⟩
theorem o_Z (hQ:∀ b,Q b→Q' b) (h:At r Q w b o y):At r Q' w b o y:=by
 obtain ⟨cs,h1,h2⟩:=h;exact ⟨cs,r.mono hQ h1,h2⟩
theorem a_w (hk:c_n Q w w') (h:Vs r Q w a n ys):Vs r Q w' a n ys:=by
 obtain ⟨h1,h2⟩:=h;refine ⟨h1,h2.imp id ?_⟩;rintro ⟨b,o,e,hq,f⟩;exact ⟨b,o,e,hq,fun i y hi=>o_Y hq hk (f i y hi)⟩
theorem a_P (hQ:∀ b,Q b→Q' b) (h:Vs r Q w a n ys):Vs r Q' w a n ys:=by
 obtain ⟨h1,h2⟩:=h;refine ⟨h1,h2.imp id ?_⟩;rintro ⟨b,o,e,hq,f⟩;exact ⟨b,o,e,hQ b hq,fun i y hi=>o_Z hQ (f i y hi)⟩
theorem f_6 (h:Vs r Q w a n ys):Vs r Any w a n ys:=a_P (fun _ _=>trivial) h
theorem c_Z:Vs r Q w none 0 ([]:List α):=⟨rfl,.inl rfl⟩
theorem e_h (hb:Below w.heap.size w w') (h:Vs r Q w a n ys):Vs r Q w' a n ys:=a_w (a_G hb) h
theorem q_S (ob:Obj) (h:Vs r Q w a n ys):Vs r Q (w.alloc ob) a n ys:=a_w (h_N w ob) h
theorem n_q (h:At r Q w b o y):∃ v,w.cell? ⟨b,o,none⟩=some v:=by
 obtain ⟨cs,h1,h2⟩:=h;have hl:=r.len h1;have hp:=r.pos;obtain ⟨v,hv⟩:∃ v,cs[0]?=some v:=⟨cs[0]'(by omega),by simp [show 0 < cs.length by omega]⟩;exact ⟨v,h2 0 v hv⟩
theorem d_b (h:Vs r Q w a n ys):Vs r (fun b=>Q b∧b < w.heap.size) w a n ys:=by
 obtain ⟨h1,h2⟩:=h
 by_cases h0:n=0
 ·exact ⟨h1,.inl h0⟩
 ·obtain ⟨b,o,e,hq,f⟩:=h2.resolve_left h0;refine ⟨h1,.inr ⟨b,o,e,⟨hq,?_⟩,fun i y hi=>?_⟩⟩
  ·obtain ⟨y,hy⟩:∃ y,ys[0]?=some y:=⟨ys[0]'(by omega),by simp [show 0 < ys.length by omega]⟩;obtain ⟨v,hv⟩:=n_q (f 0 y hy);exact b_g hv
  ·obtain ⟨cs,h3,h4⟩:=f i y hi;exact ⟨cs,r.und h3,h4⟩
theorem o_M (h:Vs r Any w a n ys):Vs r (fun b=>b < w.heap.size) w a n ys:=a_P (fun _ h=>h.2) (d_b h)
theorem g_k (h:Vs r Q w a n ys) {i:Nat} (hi:i < n):∃ b o y,a=some ⟨b,o,none⟩∧ys[i]?=some y∧Q b∧At r Q w b (o+i*r.k) y:=by
 obtain ⟨h1,h2⟩:=h;obtain ⟨b,o,e,hq,f⟩:=h2.resolve_left (by omega);have hy:ys[i]?=some (ys[i]'(by omega)):=by simp [show i < ys.length by omega]
 exact ⟨b,o,_,e,hy,hq,f i _ hy⟩
theorem f_7 (h:Vs r Q w a n ys) (m:Nat) (hm:m≤n):Vs r Q w a m (ys.take m):=by
 obtain ⟨h1,h2⟩:=h;refine ⟨by rw [List.length_take];omega,?_⟩
 by_cases h0:m=0
 ·exact .inl h0
 ·obtain ⟨b,o,e,hq,f⟩:=h2.resolve_left (by omega);refine .inr ⟨b,o,e,hq,fun i y hi=>f i y ?_⟩;rw [List.getElem?_take] at hi
  split at hi
  ·exact hi
  ·cases hi
def c_m (r:Rep α) (Q:Nat→Prop) (w:World):List Value→List α→Prop
 | cs,[]=>cs=[]
 | cs,y::ys=>∃ c d,cs=c++d∧r.R Q w c y∧c_m r Q w d ys
theorem a_1 (hk:c_n Q w w'):∀ {ys:List α} {cs:List Value},c_m r Q w cs ys→c_m r Q w' cs ys
 | [],_,h=>h
 | _::_,_,⟨c,d,e,h1,h2⟩=>⟨c,d,e,r.keep hk h1,a_1 hk h2⟩
theorem b_7 (hQ:∀ b,Q b→Q' b):∀ {ys:List α} {cs:List Value},c_m r Q w cs ys→c_m r Q' w cs ys
 | [],_,h=>h
 | _::_,_,⟨c,d,e,h1,h2⟩=>⟨c,d,e,r.mono hQ h1,b_7 hQ h2⟩
theorem a_M:∀ {ys:List α} {cs:List Value},c_m r Q w cs ys→cs.length=ys.length*r.k
 | [],_,h=>by rw [show _=[] from h];simp
 | y::ys,_,⟨c,d,e,h1,h2⟩=>by
  rw [e,List.length_append,r.len h1,a_M h2,List.length_cons,Nat.add_mul,Nat.one_mul,Nat.add_comm]
theorem d_z {c:List Value} (h:r.R Q w c y):∀ {ys:List α} {cs:List Value},c_m r Q w cs ys→c_m r Q w (cs++c) (ys++[y])
 | [],_,e=>by
  rw [show _=[] from e];exact ⟨c,[],by simp,h,rfl⟩
 | _::_,_,⟨c',d,e,h1,h2⟩=>⟨c',d++c,by rw [e,List.append_assoc],h1,d_z h h2⟩
theorem e_Q:∀ {ys:List α} {cs:List Value},c_m r Q w cs ys→∀ i y,ys[i]?=some y→∃ c,r.R Q w c y∧∀ j v,c[j]?=some v→cs[i*r.k+j]?=some v
 | [],_,_,i,y,hi=>by simp at hi
 | y'::ys,_,⟨c,d,e,h1,h2⟩,0,y,hi=>by
  obtain rfl:y'=y:=by simpa using hi
  refine ⟨c,h1,fun j v hj=>?_⟩;subst e;rw [Nat.zero_mul,Nat.zero_add,List.getElem?_append_left (by have:=List.getElem?_eq_some_iff.1 hj;exact this.1)];exact hj
 | y'::ys,_,⟨c,d,e,h1,h2⟩,i+1,y,hi=>by
  obtain ⟨c',h3,h4⟩:=e_Q h2 i y (by simpa using hi);refine ⟨c',h3,fun j v hj=>?_⟩;subst e;have hl:=r.len h1;rw [List.getElem?_append_right (by rw [hl,Nat.add_mul];omega),hl];have:=h4 j v hj;rw [show (i+1)*r.k+j - r.k=i*r.k+j by rw [Nat.add_mul];omega];exact this
theorem i_k {B:Nat} {e:TypeId} {v:Value} {cs:List Value} (h:w.ownsRow B e r.k v n cs) (hf:c_m r Q w cs ys) (hQ:∀ b,B≤b→b < w.heap.size→Q b) :
  ∃ a c,v=.slice a n c∧n≤c∧c≤9223372036854775807∧(a=none→c=0)∧Vs r Q w a n ys:=by
 obtain ⟨hl,h⟩:=h
 have hl':ys.length=n:=by
  have:=a_M hf;rw [this] at hl;exact Nat.eq_of_mul_eq_mul_right r.pos hl
 rcases h with ⟨rfl,h0⟩ | ⟨g,cap,cur,rfl,hb,hg,hn,hm,hs,ht⟩
 ·exact ⟨none,0,by rw [h0],by omega,by omega,fun _=>rfl,hl',.inl h0⟩
 ·unfold maxLen at hm
  have hlt:g < w.heap.size:=by
   have:=Array.getElem?_eq_some_iff.1 hg;exact this.1
  refine ⟨_,_,rfl,hn,by omega,(fun e=>by cases e),hl',.inr ⟨g,0,rfl,hQ g hb hlt,fun i y hi=>?_⟩⟩;obtain ⟨c,h1,h2⟩:=e_Q hf i y hi;refine ⟨c,h1,fun j v hj=>?_⟩;have e:=h2 j v hj;rw [←ht,List.getElem?_take] at e
  split at e
  ·simp only [World.cell?,hg];rw [Nat.zero_add]
   simpa using e
  ·cases e
end
def q_L {α:Type} (f:α→Value):Rep α where
 R _ _ cs y:=cs=[f y]
 k:=1
 pos:=by decide
 len h:=by rw [h];rfl
 keep _ h:=h
 mono _ h:=h
 und h:=h
def o_K {α:Type} (k:Nat) (hk:0 < k) (f:α→List Value) (hf:∀ y,(f y).length=k):Rep α where
 R _ _ cs y:=cs=f y
 k:=k
 pos:=hk
 len h:=by rw [h];exact hf _
 keep _ h:=h
 mono _ h:=h
 und h:=h
def repInt:Rep Int:=q_L (.int .i64)
section
variable {Q:Nat→Prop} {w:World} {b o:Nat}
theorem o_A {z:Int} (h:At repInt Q w b o z):w.cell? ⟨b,o,none⟩=some (.int .i64 z):=by
 obtain ⟨cs,h1,h2⟩:=h;have h1:cs=[.int .i64 z]:=h1;subst h1;exact h2 0 _ rfl
end
theorem m_W {α:Type} {f:α→Value} {Q:Nat→Prop} {w:World} {a:Option Addr} {n:Nat} {ys:List α} (h:Vs (q_L f) Q w a n ys):∀ b,a=some b→∀ j u,(ys.map f)[j]?=some u→w.cell? (b.add j)=some u:=by
 intro b hb j u hu;obtain ⟨h1,h2⟩:=h;have hj:j < ys.length:=by simpa using (List.getElem?_eq_some_iff.1 hu).1
 obtain ⟨b',o,e,_,r⟩:=h2.resolve_left (by omega);rw [hb] at e
 injection e with e
 subst e;obtain ⟨cs,e1,e2⟩:=r j _ (List.getElem?_eq_getElem hj);have e1:cs=[f ys[j]]:=e1;subst e1;have h3:=e2 0 _ rfl;have hu':f ys[j]=u:=by simpa [hj] using hu
 rw [←hu']
 have e3:(⟨b',o,none⟩:Addr).add j=⟨b',o+j,none⟩:=by
  simp only [Addr.add];split
  ·subst_vars;rfl
  ·rfl
 rw [e3]
 simpa [q_L] using h3
section
variable {H:Type} {enc:TypeId×Value→H} {P:Program} {w:World} {base:Nat} {spare:Nat→Bool} {held:Bool}
def l_f {α:Type} (r:Rep α) (ok:α→Prop) (enc:TypeId×Value→H) (P:Program) (w:World) (base:Nat) (spare:Nat→Bool) (held:Bool) (e:TypeId):Prop:=
 ∀ fuel cs x,DataW.trod enc P w base spare held fuel e cs=some x→∃ y,r.R Any w cs y∧ok y
theorem h_Y {t:TypeId} (ht:P.underlying t=some (.int .i64)):l_f repInt (fun z=>(Lit.int .i64 z).wf=true) enc P w base spare held t:=by
 intro fuel cs x h;obtain ⟨n,h1,_,h2⟩:=DataW.trod_int ht h;exact ⟨n,h1,h2⟩
def q_z {α:Type} (r:Rep α) (ok:α→Prop) (w:World) (a:Option Addr) (len cap:Nat) (ys:List α):Prop:=
 len≤cap∧cap≤9223372036854775807∧(a=none→cap=0)∧Vs r Any w a len ys∧∀ y∈ys,ok y
theorem add_plain (b off j:Nat):(⟨b,off,none⟩:Addr).add j=⟨b,off+j,none⟩:=by
 simp only [Addr.add];split
 ·subst_vars;rfl
 ·rfl
theorem c_F {α:Type} {r:Rep α} {ok:α→Prop} {t e:TypeId} (ht:P.underlying t=some (.slice e)) (hk:P.cellsOf e=r.k) (ho:l_f r ok enc P w base spare held e) [Inhabited α] :
  ∀ fuel cs x,DataW.trod enc P w base spare held fuel t cs=some x→∃ a len cap ys,cs=[.slice a len cap]∧q_z r ok w a len cap ys:=by
 intro fuel cs x h
 rcases Go.Deep.open_slice ht h with ⟨hcs,_⟩ | ⟨a,len,cap,m,n,D,Pl,hcs,_,hl,hm,hmm,_,hc⟩
 ·exact ⟨none,0,0,[],hcs,Nat.le_refl _,by omega,fun _=>rfl,c_Z,by simp⟩
 ·unfold maxLen at hm;have hlm:len≤m:=by rw [hmm];split <;> omega
  rw [hk] at hc
  have each:∀ i,i < len→∃ y:α,(∃ cs',w.cells? base (a.add (i*r.k)) r.k=some cs'∧r.R Any w cs' y)∧ok y:=by
   intro i hi;obtain ⟨cs',h1,h2⟩:=hc i (by omega);obtain ⟨y,h3,h4⟩:=ho _ _ _ h2;exact ⟨y,⟨cs',h1,h3⟩,h4⟩
  obtain ⟨f,hf⟩:=Go.Deep.choose_lt each;refine ⟨some a,len,cap,(List.range len).map f,hcs,hl,by omega,(fun e=>by cases e),⟨by simp,?_⟩,?_⟩
  ·by_cases h0:len=0
   ·exact .inl h0
   ·right
    obtain ⟨b,o,s⟩:=a
    have hs:s=none:=by
     obtain ⟨⟨cs',h1,h3⟩,_⟩:=hf 0 (by omega);obtain ⟨_,hlen,hcell⟩:=World.cells?_some h1;have hp:=r.pos;have h5:=hcell 0 (by omega);rw [Go.Deep.add_add,Nat.zero_mul,List.getElem?_eq_getElem (by omega)] at h5
     simpa [Addr.add] using World.cell?_spot h5
    subst hs;refine ⟨b,o,rfl,trivial,fun i y hi=>?_⟩
    have hil:i < len:=by
     have:=(List.getElem?_eq_some_iff.1 hi).1
     simpa using this
    have hy:f i=y:=by simpa [hil] using hi
    obtain ⟨⟨cs',h1,h3⟩,_⟩:=hf i hil;rw [hy] at h3;obtain ⟨_,hlen,hcell⟩:=World.cells?_some h1;refine ⟨cs',h3,fun j v hj=>?_⟩
    have hjl:j < r.k:=by
     have:=(List.getElem?_eq_some_iff.1 hj).1
     omega
    have h5:=hcell j hjl;rw [Go.Deep.add_add,add_plain] at h5;rw [Nat.add_assoc,h5,hj]
  ·intro y hy;obtain ⟨i,hi,rfl⟩:=List.mem_map.1 hy;exact (hf i (by simpa using hi)).2
end
theorem i_O (w:World) (o:Obj) (g:Nat) (hg:g=w.heap.size):(w.alloc o).heap[g]?=some o:=by
 subst hg;show (w.heap.push o)[w.heap.size]?=some o;simp
def a_p (w:World) (g:Nat) (vs:List Value):Prop:=∀ i v,vs[i]?=some v→w.cell? ⟨g,i,none⟩=some v∧w.frozen? ⟨g,i,none⟩=false
section
variable {w w':World} {g:Nat} {vs xs:List Value}
theorem a_i (vs:List Value) {t:TypeId} (g:Nat) (hg:g=w.heap.size):a_p (w.alloc (.cells vs.toArray t)) g vs:=by
 intro i v hi;have hh:=i_O w (.cells vs.toArray t) g hg;refine ⟨?_,by simp [World.frozen?,hh]⟩;simp only [World.cell?,hh]
 simpa using hi
theorem a_z (h:a_p w g vs) (h0:0 < vs.length):g < w.heap.size:=by
 obtain ⟨v,hv⟩:∃ v,vs[0]?=some v:=⟨vs[0],by simp [h0]⟩;exact b_g (h 0 v hv).1
theorem e_G {F:Nat} (hb:Below F w w') (hg:g < F) (h:a_p w g vs):a_p w' g vs:=fun i v hi =>
 ⟨(hb.cell (p:=⟨g,i,none⟩) hg).trans (h i v hi).1,(hb.frozen (p:=⟨g,i,none⟩) hg).trans (h i v hi).2⟩
theorem a_f (hb:Below w.heap.size w w') (h:a_p w g vs):a_p w' g vs:=fun i v hi =>
 e_G hb (b_g (h i v hi).1) h i v hi
theorem a_O (o:Obj) (h:a_p w g vs):a_p (w.alloc o) g vs:=a_f ((Below.refl _ _).alloc (Nat.le_refl _) _) h
theorem b_d (h:a_p w g vs):a_p w.drew g vs:=a_f (Below.refl _ _).drew h
theorem a_D {g' o:Nat} (h:a_p w g vs) (hne:g'≠g) (x:Value):a_p (w.setCell ⟨g',o,none⟩ x) g vs:=fun i v hi=>by
 obtain ⟨h1,h2⟩:=h i v hi;refine ⟨?_,by rw [World.frozen?_setCell];exact h2⟩;rw [World.cell?_setCell_other _ _ _ _ (fun e=>hne (congrArg Addr.block e))];exact h1
theorem a_N (h:a_p w g vs) (i:Nat) (hi:i < vs.length) (x:Value):a_p (w.setCell ⟨g,i,none⟩ x) g (vs.set i x):=by
 intro j v hj;rw [List.getElem?_set] at hj
 by_cases e:i=j
 ·subst e;rw [if_pos rfl,if_pos hi] at hj;obtain rfl:x=v:=by injection hj
  obtain ⟨u,hu⟩:∃ u,vs[i]?=some u:=⟨vs[i],by simp [hi]⟩;obtain ⟨h1,h2⟩:=h i u hu;exact ⟨World.cell?_setCell_same' _ _ _ (by rw [h1];rfl),by rw [World.frozen?_setCell];exact h2⟩
 ·rw [if_neg e] at hj;obtain ⟨h1,h2⟩:=h j v hj;refine ⟨?_,by rw [World.frozen?_setCell];exact h2⟩;rw [World.cell?_setCell_other _ _ _ _ (fun h=>e (congrArg Addr.off h))];exact h1
def c_Q (w:World) (g:Nat):Nat→List Value→World
 | _,[]=>w
 | k,x::xs=>c_Q (w.setCell ⟨g,k,none⟩ x) g (k+1) xs
theorem c_N:∀ {xs:List Value} {w:World} {vs:List Value} (k:Nat),a_p w g vs→k+xs.length≤vs.length→a_p (c_Q w g k xs) g (vs.take k++xs++vs.drop (k+xs.length))
 | [],w,vs,k,h,_=>by simpa [c_Q] using h
 | x::xs,w,vs,k,h,hl=>by
  rw [List.length_cons] at hl;have h1:=a_N h k (by omega) x;have h2:=c_N (xs:=xs) (k+1) h1 (by rw [List.length_set];omega)
  have e:(vs.set k x).take (k+1)++xs++(vs.set k x).drop (k+1+xs.length)=vs.take k++(x::xs)++vs.drop (k+(x::xs).length):=by
   rw [List.take_succ_eq_append_getElem (by rw [List.length_set];omega),List.getElem_set_self,List.take_set_of_le (Nat.le_refl _),List.drop_set_of_lt (by omega),List.length_cons];simp [Nat.add_comm,Nat.add_left_comm]
  rw [e] at h2;exact h2
theorem a_r (h:a_p w g vs) (hl:xs.length=vs.length):a_p (c_Q w g 0 xs) g xs:=by
 have:=c_N (xs:=xs) 0 h (by omega)
 simpa [hl] using this
theorem a_m {F:Nat} (hg:F≤g):∀ {xs:List Value} {w0 w:World} {k:Nat},Below F w0 w→Below F w0 (c_Q w g k xs)
 | [],_,_,_,h=>h
 | x::xs,w0,w,k,h=>by
  show Below F w0 (c_Q (w.setCell ⟨g,k,none⟩ x) g (k+1) xs)
  exact a_m hg (h.setCell (p:=⟨g,k,none⟩) hg x)
theorem a_E {Q:Nat→Prop} (hQ:∀ b,Q b→b≠g):∀ {xs:List Value} {w:World} {k:Nat},c_n Q w (c_Q w g k xs)
 | [],_,_=>l_X _ _
 | x::xs,w,k=>by
  show c_n Q w (c_Q (w.setCell ⟨g,k,none⟩ x) g (k+1) xs)
  exact b_M (b_e w ⟨g,k,none⟩ _ (fun b hb=>hQ b hb)) (a_E hQ)
theorem a_y {g':Nat} (hne:g'≠g):∀ {xs:List Value} {w:World} {k:Nat},a_p w g vs→a_p (c_Q w g' k xs) g vs
 | [],_,_,h=>h
 | x::xs,w,k,h=>by
  show a_p (c_Q (w.setCell ⟨g',k,none⟩ x) g' (k+1) xs) g vs
  exact a_y hne (a_D h hne _)
end
theorem d_R (w:World) (g:Nat):∀ (vs:List Value) (k:Nat),w.setCells g k vs=c_Q w g k vs:=by
 intro vs
 induction vs generalizing w with
 | nil=>intro k;rfl
 | cons v vs ih=>intro k;exact ih _ _
section
variable {w w':World} {B:Nat} {e:TypeId} {size:Nat} {v:Value} {n:Nat} {xs:List Value}
theorem a_K (h:w.ownsRow B e size v n xs) (hb:Below w.heap.size w w'):w'.ownsRow B e size v n xs:=
 h.kept (row:=none) ⟨hb.os,hb.tape,hb.output,hb.size,fun j hj _=>hb.block j hj⟩ (by cases hv:v.ownBlock <;> simp)
theorem a_R (h:w.ownsRow B e size v n xs) {g:Nat} (hg:v.ownBlock=some g):B≤g∧g < w.heap.size:=h.lt g hg
theorem e_d (h:w.ownsRow B e size v n xs) (p:Addr) (hp:v.ownBlock≠some p.block) (x:Value):(w.setCell p x).ownsRow B e size v n xs:=by
 obtain ⟨h1,h2⟩:=h;refine ⟨h1,?_⟩
 rcases h2 with h2 | ⟨g,cap,cur,hv,hg,hh,r⟩
 ·exact Or.inl h2
 ·refine Or.inr ⟨g,cap,cur,hv,hg,?_,r⟩;rw [Below.heap_setCell _ _ _ _ (fun e=>hp (by rw [hv];exact congrArg some e))];exact hh
theorem c_U (h:w.ownsRow B e size v n xs):∃ a c,v=.slice a n c:=by
 rcases h.2 with ⟨rfl,rfl⟩ | ⟨g,cap,cur,rfl,_⟩
 ·exact ⟨_,_,rfl⟩
 ·exact ⟨_,_,rfl⟩
theorem o_G {B':Nat} (h:w.ownsRow B e size v n xs) (hb:B'≤B):w.ownsRow B' e size v n xs:=
 ⟨h.1,h.2.imp id fun ⟨g,cap,cur,h1,h2,h3⟩=>⟨g,cap,cur,h1,Nat.le_trans hb h2,h3⟩⟩
theorem c_G {p:Addr} (h:w.ownsRow B e size v n xs) (hp:w.heap.size≤p.block∨p.block < B):v.ownBlock≠some p.block:=fun e=>by
 have:=a_R h e;omega
theorem a_F {g:Nat} (hne:v.ownBlock≠some g):∀ {us:List Value} {w:World} {k:Nat},w.ownsRow B e size v n xs→(c_Q w g k us).ownsRow B e size v n xs
 | [],_,_,h=>h
 | u::us,w,k,h=>by
  show (c_Q (w.setCell ⟨g,k,none⟩ u) g (k+1) us).ownsRow B e size v n xs
  exact a_F hne (e_d h ⟨g,k,none⟩ hne u)
end
section
variable {w w':World} {row:Option Nat}
theorem g_y (hg:w.grownBy w' row) {b:Nat} (hb:b < w.heap.size) (hne:row≠some b) (o:Nat):w'.cell? ⟨b,o,none⟩=w.cell? ⟨b,o,none⟩∧w'.frozen? ⟨b,o,none⟩=w.frozen? ⟨b,o,none⟩:=
 ⟨World.cell?_of_block (a:=⟨b,o,none⟩) (hg.block b hb (fun e=>hne e.symm)),World.frozen?_of_block (a:=⟨b,o,none⟩) (hg.block b hb (fun e=>hne e.symm))⟩
theorem c_j {g:Nat} {vs:List Value} (hg:w.grownBy w' row) (hne:row≠some g) (h:a_p w g vs):a_p w' g vs:=fun i v hi=>by
 obtain ⟨h1,h2⟩:=h i v hi;obtain ⟨e1,e2⟩:=g_y hg (b_g h1) hne i;exact ⟨e1.trans h1,e2.trans h2⟩
theorem g_A {Q:Nat→Prop} (hg:w.grownBy w' row) (hQ:∀ b,Q b→row≠some b):c_n Q w w':=fun b o v hq h=>by
 rw [(g_y hg (b_g h) (hQ b hq) o).1];exact h
end
end Go.Proofs.YtolabfafgbmdbaaGreatDoor.Gen
namespace Go.Proofs.YtolabfafgbmdbaaGreatDoor
open Go.ChangeShapes Go.WideShapes Go.ChangeAt Go.RowKit
theorem a_0 {w:World} {a:Addr} {v:Value} (h:w.cell? a=some v):a.block < w.heap.size:=by
 exact J95
theorem a_J {w:World} {a:Addr} {v:Value} (o:Obj) (h:w.cell? a=some v):(w.alloc o).cell? a=some v:=by
 rw [World.cell?_alloc_lt _ _ _ (a_0 h)];exact h
theorem a_W (w:World) (o:Obj) (g:Nat) (hg:g=w.heap.size):(w.alloc o).heap[g]?=some o:=by
 subst hg;show (w.heap.push o)[w.heap.size]?=some o;simp
theorem a_3 (w:World) (o:Obj) (g:Nat) (hg:g < w.heap.size):(w.alloc o).heap[g]?=w.heap[g]?:=Below.heap_alloc w o g hg
theorem e_o (w:World):w.drew.heap=w.heap:=rfl
theorem c_y (w:World) (c cs:Array Value) (t:TypeId) (fr:Nat×Nat) (g:Nat) (hg:g=w.heap.size):(w.alloc (.cells c t fr)).setRow g cs=w.alloc (.cells cs t fr):=by
 subst hg;simp only [World.setRow,World.alloc]
 congr 1
 apply Array.ext
 ·simp
 ·intro i h1 h2;simp only [Array.getElem_modify,Array.getElem_push]
  split
  ·subst_vars;simp
  ·have:i < w.heap.size:=by simp at h2;omega
   simp [this]
theorem c_z (w:World) (o:Obj) (cs:Array Value) (g:Nat) (hg:g < w.heap.size):(w.alloc o).setRow g cs=(w.setRow g cs).alloc o:=by
 simp only [World.setRow,World.alloc]
 congr 1
 apply Array.ext
 ·simp
 ·intro i h1 h2;simp only [Array.getElem_modify,Array.getElem_push,Array.size_modify]
  split
  ·subst_vars;simp [hg]
  ·rfl
theorem f_Y (w:World) (cs:Array Value) (g:Nat):w.drew.setRow g cs=(w.setRow g cs).drew:=rfl
theorem a_b {w w0 w1:World} (h0:Below w.heap.size w w0) (h:Below w0.heap.size w0 w1):Below w.heap.size w w1:=h0.trans (h.mono h0.size)
theorem e_M {W w1:World} (hb:Below W.heap.size W w1):(∀ b o,b < W.heap.size→w1.cell? ⟨b,o,none⟩=W.cell? ⟨b,o,none⟩)∧(∀ b o,b < W.heap.size→w1.frozen? ⟨b,o,none⟩=W.frozen? ⟨b,o,none⟩):=
 ⟨fun b o h=>hb.cell (p:=⟨b,o,none⟩) h,fun b o h=>hb.frozen (p:=⟨b,o,none⟩) h⟩
theorem a_n {w w':World} {a:Addr} {v:Value} (hb:Below w.heap.size w w') (h:w.cell? a=some v):w'.cell? a=some v:=by
 rw [hb.cell (a_0 h)];exact h
theorem b_X {w:World} {b k:Nat} {c:Array Value} {t:TypeId} (h:w.heap[b]?=some (.cells c t)):w.frozen? ⟨b,k,none⟩=false:=by
 simp [World.frozen?,h]
theorem a_S {w:World} {c:Array Value} {t:TypeId} {fr:Nat×Nat} (g k:Nat) (v:Value) (hg:g=w.heap.size) (hv:c[k]?=some v):(w.alloc (.cells c t fr)).cell? ⟨g,k,none⟩=some v:=by
 simp only [World.cell?,a_W w _ g hg]
 simpa using hv
theorem c_x {w:World} {g k:Nat} (o:Obj) (hg:g < w.heap.size):(w.alloc o).frozen? ⟨g,k,none⟩=w.frozen? ⟨g,k,none⟩:=by
 simp only [World.frozen?,a_3 w o g hg]
theorem b_B {w:World} {c:Array Value} {t:TypeId} (g k:Nat) (hg:g=w.heap.size):(w.alloc (.cells c t)).frozen? ⟨g,k,none⟩=false:=b_X (a_W w _ g hg)
def a_B (r:Bool) (w:World) (e:Ending) (w':World):Prop:=e=.returned (.bool r)∧Below w.heap.size w w'
theorem a_e {r s:Bool} {w w':World} (h:r=s) (hb:Below w.heap.size w w'):a_B r w (.returned (.bool s)) w':=by subst h;exact ⟨rfl,hb⟩
def g_a (r:Bool) (w:World) (e:Ending) (w':World):Prop:=e=.returned (.bool r)∧w'=w
theorem b_8 {r s:Bool} {w:World} (h:r=s):g_a r w (.returned (.bool s)) w:=by subst h;exact ⟨rfl,rfl⟩
theorem a_j {fn:Func} {R:Ending→World→Prop} {a:Act} {w:World} {p u:Tmp} {ty:TypeId} {X:Value} (ad:Addr) (hr:fn.results=#[.cell p ty,.tmp u]) (hd:a.defers=[])
  (hp:a.tmps.getD p undef=.pointer (some ad)) (hl:(loadVar ty ad).run Tryz.prog w=.ok X w) (h:R (.returned (.tuple #[X,a.tmps.getD u undef])) w):bodyPost Tryz.prog fn R .ret a w:=by
 refine bodyPost_ret (v:=.tuple #[X,a.tmps.getD u undef]) ?_ hd h;rw [results_cell_tmp hr,hp];simp [asAddr,Result.andThen,hl]
theorem b_0 {fn:Func} {R:Ending→World→Prop} {a:Act} {w:World} {p:Tmp} {ty:TypeId} {X:Value} (ad:Addr) (hr:fn.results=#[.cell p ty]) (hd:a.defers=[])
  (hp:a.tmps.getD p undef=.pointer (some ad)) (hl:(loadVar ty ad).run Tryz.prog w=.ok X w) (h:R (.returned X) w):bodyPost Tryz.prog fn R .ret a w:=by
 refine bodyPost_ret (v:=X) ?_ hd h;have hp':a.tmps[p]?.getD undef=.pointer (some ad):=by simpa using hp
 simp [results,hr,asAddr,hp',hl]
theorem c_S {fn:Func} {R:Ending→World→Prop} {a:Act} {w:World} {p u v:Tmp} {ty:TypeId} {X:Value} (ad:Addr) (hr:fn.results=#[.cell p ty,.tmp u,.tmp v]) (hd:a.defers=[])
  (hp:a.tmps.getD p undef=.pointer (some ad)) (hl:(loadVar ty ad).run Tryz.prog w=.ok X w) (h:R (.returned (.tuple #[X,a.tmps.getD u undef,a.tmps.getD v undef])) w):bodyPost Tryz.prog fn R .ret a w:=by
 refine bodyPost_ret (v:=.tuple #[X,a.tmps.getD u undef,a.tmps.getD v undef]) ?_ hd h;have hp':a.tmps[p]?.getD undef=.pointer (some ad):=by simpa using hp
 simp [results,hr,asAddr,hp',hl]
theorem e_D {P:Program} {ops:Array Oper} {o:Oper} {a:Act} {w:World} {K:Act→World→Prop} {Q:Exit→Act→World→Prop} {E:Prop}
  (hg:o.guard=none) (d s:Operand) (dT sT:TypeId) (hop:o.op=Op.call { callee:=Callee.builtin Builtin.copy,args:=#[d,s],argTypes:=#[dT,sT] })
  (vd vs v':Value) (w':World) (hd:a.eval d=vd) (hs:a.eval s=vs) (hr:(Builtin.copy_ #[dT,sT] o.type #[vd,vs]).run P w=.ok v' w') (hK:K (a.put o.dst v') w') :
  if Region.wanted o (yielded ops a.tmps)=true then Oper.wp P o a w K Q else E:=by
 have hw:=N105;rw [if_pos hw];unfold Oper.wp;simp [execOp,hop,resolve,invoke,builtin,hd,hs,hr,Result.andThen];exact hK
end Go.Proofs.YtolabfafgbmdbaaGreatDoor
