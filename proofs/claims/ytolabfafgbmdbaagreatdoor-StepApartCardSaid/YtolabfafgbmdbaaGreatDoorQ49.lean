import Derived.Test.YtolabfafgbmdbaaGreatDoorCards
import Derived.Test.YtolabfafgbmdbaaGreatDoorTie
import Derived.Test.YtolabfafgbmdbaaGreatDoorQ6
import Derived.Test.YtolabfafgbmdbaaGreatDoorQ8
import Derived.Test.YtolabfafgbmdbaaGreatDoorQ11
import Derived.ProofKit
import Derived.Stop.LaidErr
import Derived.LaidMore
import Derived.Lay
import Derived.Lib.SmallJoins
import Derived.Deep.DeepHandedRow
import Derived.SevenTiedAt
import Derived.OpenShut
import Derived.Below
import Derived.Test.YtolabfafgbmdbaaGreatDoorQ42
import Derived.Test.YtolabfafgbmdbaaGreatDoorQ0
set_option maxRecDepth 100000
set_option maxHeartbeats 16000000
namespace Go.Proofs.YtolabfafgbmdbaaGreatDoor
open Go.ChangeShapes Go.WideShapes Go.ChangeAt Go.RowKit
open Gen
theorem Tryz.own:ownKnob Tryz.prog.godebug=none:=by kernel_rfl
theorem n_6:Tryz.prog.cellsOf 9=1:=by kernel_rfl
theorem l_P:Tryz.prog.cellsOf 149=2:=by kernel_rfl
theorem n_5:Tryz.prog.cellsOf 150=54:=by kernel_rfl
theorem gOpsT8:(Tryz.prog.globals[0]?).map (·.type)=some 150:=by kernel_rfl
def p_c {H:Type} (k:Nat):DataW H:=.agg [.lit (.string (opName.getD k [])),.lit (.string (opSign.getD k []))]
theorem p_f {H:Type}:(Rows.laid_respite_asm_operations:DataW H)=.agg ((List.range 27).map p_c):=rfl
theorem n_k {H:Type} {enc:TypeId×Value→H} {W:World} {base:Nat} {sp:Nat→Bool} {held:Bool} {fuel:Nat} {cs:List Value} {a b:Bs} {p:List MemPlace}
  (h:DataW.trod enc Tryz.prog W base sp held fuel 149 cs=some (.agg [.lit (.string a),.lit (.string b)],p)):cs=[.string (str a),.string (str b)]:=by
 obtain ⟨xs,n,rfl,hx,hl,hn,hf⟩:=DataW.trod_struct Tryz.underlying149 h;have h0:DataW.trod enc Tryz.prog W base sp held n 9 ((cs.drop 0).take (Tryz.prog.cellsOf 9))=xs[0]?:=hf 0 _ rfl;have h1:DataW.trod enc Tryz.prog W base sp held n 9 ((cs.drop 1).take (Tryz.prog.cellsOf 9))=xs[1]?:=hf 1 _ rfl;rw [l_P] at hl
 match cs,hl with
 | [c0,c1],_ =>
 simp only [n_6,List.drop_zero,List.drop_succ_cons,List.take_succ_cons,List.take_zero] at h0 h1
 match xs,hn,hx,h0,h1 with
 | [x0,x1],_,hx,h0,h1 =>
 simp only [List.map_cons,List.map_nil,Prod.mk.injEq,DataW.agg.injEq,List.cons.injEq] at hx;obtain ⟨s0,e0,f0,-⟩:=DataW.trod_string Tryz.underlying9 h0;obtain ⟨s1,e1,f1,-⟩:=DataW.trod_string Tryz.underlying9 h1;subst f0 f1;obtain ⟨⟨g0,g1,-⟩,-⟩:=hx
 injection g0 with g0
 injection g0 with g0
 injection g1 with g1
 injection g1 with g1
 injection e0 with e0
 injection e1 with e1
 rw [e0,e1,g0,g1,show str s0.data.toList=s0 from rfl,show str s1.data.toList=s1 from rfl]
theorem n_d {H:Type} {enc:TypeId×Value→H} {W:World} {base:Nat} {sp:Nat→Bool} {held:Bool} {fuel:Nat} {cs:List Value} {p:List MemPlace}
  (h:DataW.trod enc Tryz.prog W base sp held fuel 150 cs=some (Rows.laid_respite_asm_operations,p)):cs=opCells:=by
 rw [p_f] at h;obtain ⟨xs,n,rfl,hx,hl,hn,hf⟩:=DataW.trod_array Tryz.underlying150 h;rw [n_5] at hl;rw [l_P] at hf;simp only [Prod.mk.injEq,DataW.agg.injEq] at hx
 have hrow:∀ i,i < 27→(cs.drop (i*2)).take 2=[.string (str (opName.getD i [])),.string (str (opSign.getD i []))]:=by
  intro i hi;have h1:=hf i hi;have h2:(xs.map (·.1))[i]?=some (p_c i):=by rw [←hx.1];simp [hi]
  rw [List.getElem?_map,Option.map_eq_some_iff] at h2;obtain ⟨⟨d,q⟩,h3,h4⟩:=h2;rw [h3] at h1;dsimp only at h4;subst h4;exact n_k h1
 have hol:opCells.length=54:=by kernel_rfl
 have hor:∀ i,i < 27→(opCells.drop (i*2)).take 2=[.string (str (opName.getD i [])),.string (str (opSign.getD i []))]:=by
  intro k hk;exact J63
 apply List.ext_getElem?
 intro j
 by_cases hj:j < 54
 ·have h1:=hrow (j / 2) (by omega);rw [←hor (j / 2) (by omega)] at h1;have h2:=congrArg (·[j % 2]?) h1;simp only [List.getElem?_take,List.getElem?_drop] at h2;rw [if_pos (by omega),if_pos (by omega),show j / 2*2+j % 2=j by omega] at h2;exact h2
 ·rw [List.getElem?_eq_none (by omega),List.getElem?_eq_none (by omega)]
theorem h_N {w:World} (h:w.ShapedOpen Tryz.prog):0+1≤w.heap.size:=by
 obtain ⟨o,ho⟩:∃ o,((begin Tryz.prog (fun _ _=>0) default).world.heap[0]?).bind Obj.row?=some o:=Option.isSome_iff_exists.1 (by kernel_rfl);obtain ⟨cs,hh,-⟩:=h.1 0 o.1 o.2 (of_decide_eq_true (by kernel_rfl)) ho;have:=(Array.getElem?_eq_some_iff.1 hh).1
 omega
theorem i_J {W:World} (hs:W.ShapedOpen Tryz.prog) (hL:laidMetH Tryz.prog Rows.stepApartRow.laid W):Glob W:=by
 rw [MakeChecks.laidMetH_plain _ _ _ (by kernel_rfl)] at hL;obtain ⟨ps,⟨g,t,cs,fuel,p,q,hg,ht,hv,hd,-,-⟩,-⟩:=hL;obtain rfl:=Option.some.inj (Tryz.gOps.symm.trans hg);obtain rfl:=Option.some.inj (gOpsT8.symm.trans ht);have hc:=n_d hd;exact ⟨h_N hs,by rw [hv,←hc]⟩
section
variable {H:Type} {enc:TypeId×Value→H} {w:World} {base:Nat} {spare:Nat→Bool} {held:Bool}
theorem n_c:p_7 repIns (fun i=>W64 i.2.1∧W64 i.2.2.1∧W64 i.2.2.2) enc Tryz.prog w base spare held 66:=by
 intro fuel cs x h;obtain ⟨y0,y1,y2,y3,n,_,hl,t0,t1,t2,t3⟩:=Go.Joins.trod_struct4 Tryz.underlying66 h;rw [show Tryz.prog.cellsOf 66=4 by kernel_rfl] at hl;have k1:Tryz.prog.cellsOf 3=1:=by kernel_rfl
 match cs,hl with
 | [c0,c1,c2,c3],_ =>
  obtain ⟨z0,e0,_,_⟩:=DataW.trod_int Tryz.underlying3 t0;obtain ⟨z1,e1,_,w1⟩:=DataW.trod_int Tryz.underlying3 t1;obtain ⟨z2,e2,_,w2⟩:=DataW.trod_int Tryz.underlying3 t2;obtain ⟨z3,e3,_,w3⟩:=DataW.trod_int Tryz.underlying3 t3;rw [k1] at e0 e1 e2 e3;simp at e0 e1 e2 e3;subst e0 e1 e2 e3;exact ⟨(z0,z1,z2,z3),rfl,w1,w2,w3⟩
theorem n_b:p_7 f_C (fun _=>True) enc Tryz.prog w base spare held 68:=by
 intro fuel cs x h;obtain ⟨y0,y1,n,_,hl,t0,t1⟩:=Go.ChangeShapes.trod_struct2 Tryz.underlying68 h;rw [show Tryz.prog.cellsOf 68=2 by kernel_rfl] at hl;have k1:Tryz.prog.cellsOf 3=1:=by kernel_rfl
 match cs,hl with
 | [c0,c1],_ =>
  obtain ⟨z0,e0,_,_⟩:=DataW.trod_int Tryz.underlying3 t0;obtain ⟨z1,e1,_,_⟩:=DataW.trod_int Tryz.underlying3 t1;rw [k1] at e0 e1;simp at e0 e1;subst e0 e1;exact ⟨(z0,z1),rfl,trivial⟩
theorem n_a {v:Value} {d:DataW H} {p:List MemPlace} (h:DataW.Trod enc Tryz.prog w base spare held 22 v d p) :
  ∃ (a:Option Addr) (n c:Nat) (zs:List Ins),v.cells.toList=[.slice a n c]∧u_i repIns (fun i=>W64 i.2.1∧W64 i.2.2.1∧W64 i.2.2.2) w a n c zs:=by
 obtain ⟨fuel,hf⟩:=h;exact f_y (r:=repIns) Tryz.underlying22 (by kernel_rfl) n_c _ _ _ hf
theorem f_x {v:Value} {d:DataW H} {p:List MemPlace} (h:DataW.Trod enc Tryz.prog w base spare held 23 v d p) :
  ∃ (a:Option Addr) (n c:Nat) (zs:List Int),v.cells.toList=[.slice a n c]∧u_i repInt (fun z=>(Lit.int .i64 z).wf=true) w a n c zs:=by
 obtain ⟨fuel,hf⟩:=h;exact f_y (r:=repInt) Tryz.underlying23 (by kernel_rfl) (p_e Tryz.underlying3) _ _ _ hf
theorem k_9 {v:Value} {d:DataW H} {p:List MemPlace} (h:DataW.Trod enc Tryz.prog w base spare held 50 v d p) :
  ∃ (a:Option Addr) (n c:Nat) (zs:List (Int×Int)),v.cells.toList=[.slice a n c]∧u_i f_C (fun _=>True) w a n c zs:=by
 obtain ⟨fuel,hf⟩:=h;exact f_y (r:=f_C) Tryz.underlying50 (by kernel_rfl) n_b _ _ _ hf
end
end Go.Proofs.YtolabfafgbmdbaaGreatDoor
