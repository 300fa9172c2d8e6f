import Derived.Test.YtolabfafgbmdbaaGreatDoorCards
import Derived.Test.YtolabfafgbmdbaaGreatDoorTie
import Derived.Test.YtolabfafgbmdbaaGreatDoorR7
import Derived.Test.YtolabfafgbmdbaaGreatDoorR35
import Derived.Test.YtolabfafgbmdbaaGreatDoorR9
import Derived.ProofKit
import Derived.Stop.LaidErr
import Derived.LaidMore
import Derived.Lay
import Derived.Lib.SmallJoins
import Derived.Deep.DeepHandedRow
import Derived.SevenTiedAt
import Derived.OpenShut
import Derived.Below
import Derived.Test.YtolabfafgbmdbaaGreatDoorR0
import Derived.Test.YtolabfafgbmdbaaGreatDoorR15
set_option maxRecDepth 100000
set_option maxHeartbeats 16000000
namespace Go.Proofs.YtolabfafgbmdbaaGreatDoor
open Go.ChangeShapes Go.WideShapes Go.ChangeAt Go.RowKit
open Gen
theorem Tryz.own:ownKnob Tryz.prog.godebug=none:=by kernel_rfl
theorem l_v:Tryz.prog.cellsOf 9=1:=by kernel_rfl
theorem j_I:Tryz.prog.cellsOf 149=2:=by kernel_rfl
theorem l_u:Tryz.prog.cellsOf 150=54:=by kernel_rfl
theorem gOpsT8:(Tryz.prog.globals[0]?).map (·.type)=some 150:=by kernel_rfl
def m_p {H:Type} (k:Nat):DataW H:=.agg [.lit (.string (opName.getD k [])),.lit (.string (opSign.getD k []))]
theorem m_r {H:Type}:(Rows.laid_respite_asm_operations:DataW H)=.agg ((List.range 27).map m_p):=rfl
theorem k_T {H:Type} {enc:TypeId×Value→H} {W:World} {base:Nat} {sp:Nat→Bool} {held:Bool} {fuel:Nat} {cs:List Value} {a b:Bs} {p:List MemPlace}
  (h:DataW.trod enc Tryz.prog W base sp held fuel 149 cs=some (.agg [.lit (.string a),.lit (.string b)],p)):cs=[.string (str a),.string (str b)]:=by
 obtain ⟨xs,n,rfl,hx,hl,hn,hf⟩:=DataW.trod_struct Tryz.underlying149 h;have h0:DataW.trod enc Tryz.prog W base sp held n 9 ((cs.drop 0).take (Tryz.prog.cellsOf 9))=xs[0]?:=hf 0 _ rfl;have h1:DataW.trod enc Tryz.prog W base sp held n 9 ((cs.drop 1).take (Tryz.prog.cellsOf 9))=xs[1]?:=hf 1 _ rfl;rw [j_I] at hl
 match cs,hl with
 | [c0,c1],_ =>
 simp only [l_v,List.drop_zero,List.drop_succ_cons,List.take_succ_cons,List.take_zero] at h0 h1
 match xs,hn,hx,h0,h1 with
 | [x0,x1],_,hx,h0,h1 =>
 simp only [List.map_cons,List.map_nil,Prod.mk.injEq,DataW.agg.injEq,List.cons.injEq] at hx;obtain ⟨s0,e0,f0,-⟩:=DataW.trod_string Tryz.underlying9 h0;obtain ⟨s1,e1,f1,-⟩:=DataW.trod_string Tryz.underlying9 h1;subst f0 f1;obtain ⟨⟨g0,g1,-⟩,-⟩:=hx
 injection g0 with g0
 injection g0 with g0
 injection g1 with g1
 injection g1 with g1
 injection e0 with e0
 injection e1 with e1
 rw [e0,e1,g0,g1,show str s0.data.toList=s0 from rfl,show str s1.data.toList=s1 from rfl]
theorem k_N {H:Type} {enc:TypeId×Value→H} {W:World} {base:Nat} {sp:Nat→Bool} {held:Bool} {fuel:Nat} {cs:List Value} {p:List MemPlace}
  (h:DataW.trod enc Tryz.prog W base sp held fuel 150 cs=some (Rows.laid_respite_asm_operations,p)):cs=opCells:=by
 rw [m_r] at h;obtain ⟨xs,n,rfl,hx,hl,hn,hf⟩:=DataW.trod_array Tryz.underlying150 h;rw [l_u] at hl;rw [j_I] at hf;simp only [Prod.mk.injEq,DataW.agg.injEq] at hx
 have hrow:∀ i,i < 27→(cs.drop (i*2)).take 2=[.string (str (opName.getD i [])),.string (str (opSign.getD i []))]:=by
  intro i hi;have h1:=hf i hi;have h2:(xs.map (·.1))[i]?=some (m_p i):=by rw [←hx.1];simp [hi]
  rw [List.getElem?_map,Option.map_eq_some_iff] at h2;obtain ⟨⟨d,q⟩,h3,h4⟩:=h2;rw [h3] at h1;dsimp only at h4;subst h4;exact k_T h1
 have hol:opCells.length=54:=by kernel_rfl
 have hor:∀ i,i < 27→(opCells.drop (i*2)).take 2=[.string (str (opName.getD i [])),.string (str (opSign.getD i []))]:=by
  intro k hk;exact J49
 apply List.ext_getElem?
 intro j
 by_cases hj:j < 54
 ·have h1:=hrow (j / 2) (by omega);rw [←hor (j / 2) (by omega)] at h1;have h2:=congrArg (·[j % 2]?) h1;simp only [List.getElem?_take,List.getElem?_drop] at h2;rw [if_pos (by omega),if_pos (by omega),show j / 2*2+j % 2=j by omega] at h2;exact h2
 ·rw [List.getElem?_eq_none (by omega),List.getElem?_eq_none (by omega)]
theorem g_h {w:World} (h:w.ShapedOpen Tryz.prog):0+1≤w.heap.size:=by
 obtain ⟨o,ho⟩:∃ o,((begin Tryz.prog (fun _ _=>0) default).world.heap[0]?).bind Obj.row?=some o:=Option.isSome_iff_exists.1 (by kernel_rfl);obtain ⟨cs,hh,-⟩:=h.1 0 o.1 o.2 (of_decide_eq_true (by kernel_rfl)) ho;have:=(Array.getElem?_eq_some_iff.1 hh).1
 omega
theorem m_Z {Q:Nat→Prop} {w:World} {a:Option Addr} {n:Nat} {zs:List Int} (h:Vs repInt Q w a n zs):Sl w a n zs:=by
 obtain ⟨h1,h2⟩:=h;refine ⟨h1,h2.imp id ?_⟩;rintro ⟨b,o,e,_,f⟩;refine ⟨b,o,e,fun i hi=>?_⟩;have h5:=f i _ (List.getElem?_eq_getElem hi);rw [show repInt.k=1 from rfl,Nat.mul_one] at h5;rw [o_A h5];simp [hi]
section
variable {H:Type} {enc:TypeId×Value→H} {w:World} {base:Nat} {spare:Nat→Bool} {held:Bool}
theorem k_L:l_f repIns (fun i=>W64 i.2.1∧W64 i.2.2.1∧W64 i.2.2.2) enc Tryz.prog w base spare held 66:=by
 intro fuel cs x h;obtain ⟨y0,y1,y2,y3,n,_,hl,t0,t1,t2,t3⟩:=Go.Joins.trod_struct4 Tryz.underlying66 h;rw [show Tryz.prog.cellsOf 66=4 by kernel_rfl] at hl;have k1:Tryz.prog.cellsOf 3=1:=by kernel_rfl
 match cs,hl with
 | [c0,c1,c2,c3],_ =>
  obtain ⟨z0,e0,_,_⟩:=N122;obtain ⟨z1,e1,_,w1⟩:=DataW.trod_int Tryz.underlying3 t1;obtain ⟨z2,e2,_,w2⟩:=DataW.trod_int Tryz.underlying3 t2;obtain ⟨z3,e3,_,w3⟩:=DataW.trod_int Tryz.underlying3 t3;rw [k1] at e0 e1 e2 e3;simp at e0 e1 e2 e3;subst e0 e1 e2 e3;exact ⟨(z0,z1,z2,z3),rfl,w1,w2,w3⟩
theorem k_J {v:Value} {d:DataW H} {p:List MemPlace} (h:DataW.Trod enc Tryz.prog w base spare held 22 v d p) :
  ∃ (a:Option Addr) (n c:Nat) (zs:List Ins),v.cells.toList=[.slice a n c]∧q_z repIns (fun i=>W64 i.2.1∧W64 i.2.2.1∧W64 i.2.2.2) w a n c zs:=by
 obtain ⟨fuel,hf⟩:=h;exact c_F (r:=repIns) Tryz.underlying22 (by kernel_rfl) k_L _ _ _ hf
theorem e_c {v:Value} {d:DataW H} {p:List MemPlace} (h:DataW.Trod enc Tryz.prog w base spare held 23 v d p) :
  ∃ (a:Option Addr) (n c:Nat) (zs:List Int),v.cells.toList=[.slice a n c]∧q_z repInt (fun z=>(Lit.int .i64 z).wf=true) w a n c zs:=by
 obtain ⟨fuel,hf⟩:=h;exact c_F (r:=repInt) Tryz.underlying23 (by kernel_rfl) (h_Y Tryz.underlying3) _ _ _ hf
end
end Go.Proofs.YtolabfafgbmdbaaGreatDoor
namespace Go.Proofs.YtolabfafgbmdbaaGreatDoor
open Go.ChangeShapes Go.WideShapes Go.ChangeAt Go.RowKit
open Gen
section
variable {H:Type} {enc:TypeId×Value→H} {w:World} {base:Nat} {spare:Nat→Bool} {held:Bool}
theorem i_A:Tryz.prog.cellsOf 3=1:=by kernel_rfl
theorem h_W {n:Nat} {t:TypeId} (ht:Tryz.prog.underlying t=some (.array n 3)) {fuel:Nat} {cs:List Value} {x:DataW H×List MemPlace} (h:DataW.trod enc Tryz.prog w base spare held fuel t cs=some x) :
  ∃ r:Nat→Int,∀ i,i < n→cs[i]?=some (.int .i64 (r i))∧(Lit.int .i64 (r i)).wf=true:=by
 obtain ⟨xs,m,_,_,hl,hlen,hf⟩:=DataW.trod_array ht h
 have each:∀ i,i < n→∃ z:Int,cs[i]?=some (.int .i64 z)∧(Lit.int .i64 z).wf=true:=by
  intro i hi;have h1:=hf i hi;rw [List.getElem?_eq_getElem (by omega)] at h1;obtain ⟨z,e,_,hw⟩:=DataW.trod_int Tryz.underlying3 h1;rw [i_A,Nat.mul_one] at e;refine ⟨z,?_,hw⟩;have h2:((cs.drop i).take 1)[0]?=some (.int .i64 z):=by rw [e];rfl
  simpa using h2
 exact Go.Deep.choose_lt each
theorem h_X:l_f repFr (fun _=>True) enc Tryz.prog w base spare held 105:=by
 intro fuel cs x h;obtain ⟨y0,y1,n,_,hl,t0,t1⟩:=trod_struct2 Tryz.underlying105 h;rw [show Tryz.prog.cellsOf 105=5 by kernel_rfl] at hl;have k4:Tryz.prog.cellsOf 99=4:=by kernel_rfl
 match cs,hl with
 | [c0,c1,c2,c3,c4],_ =>
  obtain ⟨z0,e0,_,_⟩:=N122;obtain ⟨r,hr⟩:=h_W Tryz.underlying99 t1;rw [i_A] at e0;simp only [k4] at hr;have r0:=(hr 0 (by omega)).1;have r1:=(hr 1 (by omega)).1;have r2:=(hr 2 (by omega)).1;have r3:=(hr 3 (by omega)).1;simp at e0 r0 r1 r2 r3;subst e0 r0 r1 r2 r3;exact ⟨(z0,r 0,r 1,r 2,r 3),rfl,trivial⟩
theorem k_M:l_f repTh (fun t=>∀ i,i < 8→(Lit.int .i64 (t.r i)).wf=true) enc Tryz.prog w base spare held 46:=by
 intro fuel cs x h;obtain ⟨xs,n,_,_,hl,hlen,hg⟩:=DataW.trod_struct Tryz.underlying46 h;rw [show Tryz.prog.cellsOf 46=13 by kernel_rfl] at hl;have k8:Tryz.prog.cellsOf 43=8:=by kernel_rfl
 have kf:Tryz.prog.cellsOf 44=1:=by kernel_rfl
 have ki:Tryz.prog.cellsOf 23=1:=by kernel_rfl
 have ke:Tryz.prog.cellsOf 34=1:=by kernel_rfl
 have t0:=hg 0 _ rfl;have t1:=hg 1 _ rfl;have t2:=hg 2 _ rfl;have t3:=hg 3 _ rfl;have t4:=hg 4 _ rfl;have t5:=hg 5 _ rfl
 match xs,hlen,cs,hl with
 | [y0,y1,y2,y3,y4,y5],_,[c0,c1,c2,c3,c4,c5,c6,c7,c8,c9,c10,c11,c12],_ =>
  obtain ⟨z0,e0,_,_⟩:=N122;obtain ⟨r,hr⟩:=h_W Tryz.underlying43 t1;obtain ⟨fa,fn,fc,fs,e2,q1,q2,q3,q4,_⟩:=c_F Tryz.underlying44 (by kernel_rfl) h_X _ _ _ t2;obtain ⟨z3,e3,_,_⟩:=DataW.trod_int Tryz.underlying3 t3;obtain ⟨z4,e4,_,_⟩:=DataW.trod_int Tryz.underlying34 t4;obtain ⟨la,ln,lc,lf,e5,p1,p2,p3,p4,_⟩:=c_F (r:=repInt) Tryz.underlying23 (by kernel_rfl) (h_Y Tryz.underlying3) _ _ _ t5;have r0:=(hr 0 (by omega)).1;have r1:=(hr 1 (by omega)).1;have r2:=(hr 2 (by omega)).1;have r3:=(hr 3 (by omega)).1;have r4:=(hr 4 (by omega)).1;have r5:=(hr 5 (by omega)).1;have r6:=(hr 6 (by omega)).1;have r7:=(hr 7 (by omega)).1;simp [i_A,k8,kf,ki,ke] at e0 r0 r1 r2 r3 r4 r5 r6 r7 e2 e3 e4 e5;subst e0 r0 r1 r2 r3 r4 r5 r6 r7 e2 e3 e4 e5;obtain rfl:fs.length=fn:=q4.1;obtain rfl:lf.length=ln:=p4.1;exact ⟨⟨z0,r,fs,z3,z4,lf⟩,⟨fa,fc,la,lc,rfl,⟨⟨q1,q2,q3⟩,q4,⟨p1,p2,p3⟩,p4⟩⟩,fun i hi=>(hr i hi).2⟩
instance:Inhabited Thr:=⟨d_d⟩
theorem k_K {v:Value} {d:DataW H} {p:List MemPlace} (h:DataW.Trod enc Tryz.prog w base spare held 24 v d p) :
  ∃ (a:Option Addr) (n c:Nat) (zs:List Thr),v.cells.toList=[.slice a n c]∧q_z repTh (fun t=>∀ i,i < 8→(Lit.int .i64 (t.r i)).wf=true) w a n c zs:=by
 obtain ⟨fuel,hf⟩:=h;exact c_F (r:=repTh) Tryz.underlying24 (by kernel_rfl) k_M _ _ _ hf
end
end Go.Proofs.YtolabfafgbmdbaaGreatDoor
