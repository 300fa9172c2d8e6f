import Derived.Test.YtolabfafgbmdbaaGreatDoorR6
import Derived.Lib.ItoaNum
import Derived.Lib.AtoiAll
import Derived.Test.YtolabfafgbmdbaaGreatDoorR1
import Derived.Test.YtolabfafgbmdbaaGreatDoorR0
import Derived.Lib.Split
import Derived.Lib.IndexLaws
import Derived.Lib.IndexBytes
import Derived.WalkSmall
import Derived.Maps.OwnIn
import Derived.Maps.OwnSet
import Derived.Maps.Views
import Derived.Lib.AppendIntMem
import Derived.Lib.ItoaLen
import Derived.Lib.AtoiErrMem
import Derived.RangeFuncNested
import Derived.RangeFuncBox
import Derived.RangeFuncBound
import Derived.RangeFuncCalls
import Derived.RangeFuncLeaves
import Derived.OwnWalkIn
import Derived.TacticsInMore
import Derived.LoopNIn
import Derived.LoopIn
import Derived.Shelf.Abstract
import Derived.Laws.Rows
import Derived.Deep.DeepCutAuto
import Derived.Maps.AppendAt
import Derived.Deep.AppendLies
import Derived.Shelf.RegionOpen
import Derived.Lib.AtoiAllCases
set_option maxRecDepth 100000
set_option maxHeartbeats 16000000
namespace Go.Proofs.YtolabfafgbmdbaaGreatDoor
open Go.ChangeShapes Go.WideShapes Go.ChangeAt Go.RowKit
open Gen
def OpB (w:World) (cs:List Value) (w':World):Prop:=Below w.heap.size w w'∧a_p w' w.heap.size cs∧∃ xs:List Value,a_p w' (w.heap.size+1) xs∧xs.length=13
theorem b_l {w w1 w2:World} {cs:List Value} (h:OpB w cs w1) (hb:Below w1.heap.size w1 w2) (hc:0 < cs.length):OpB w cs w2:=by
 obtain ⟨h1,h2,xs,h3,h4⟩:=h;exact ⟨h1.trans (hb.mono (Nat.le_of_lt (a_z h2 hc))),a_f hb h2,xs,a_f hb h3,h4⟩
theorem b_V {w w1 U:World} {xs zs:List Value} (HU:Hid (U=c_Q w1 (w.heap.size+1) 0 zs.toArray.toList)) (hx:a_p w1 (w.heap.size+1) xs) (hn:xs.length=13) (hz:zs.length=13):a_p U (w.heap.size+1) zs:=by
 rw [HU.out];exact a_r (xs:=zs) hx (by rw [hz];exact hn.symm)
theorem d_j {w w1 U:World} {cs xs zs:List Value} (HU:Hid (U=c_Q w1 (w.heap.size+1) 0 zs.toArray.toList)) (h:OpB w cs w1) (hx:a_p w1 (w.heap.size+1) xs) (hn:xs.length=13) (hz:zs.length=13):OpB w cs U:=
 ⟨a_T HU (Nat.le_succ _) h.1,by rw [HU.out];exact a_y (by omega) h.2.1,zs,b_V HU hx hn hz,hz⟩
theorem c_t (w:World) (t:Thr) (self:Int) (i:In4) (fa:Option Addr) (fn fc:Nat) (la:Option Addr) (ln lc:Nat) {cs:List Value} (hcs:cs=(tkC t fa fn fc la ln lc self i)) :
  ∃ W,W=(w.alloc (Obj.cells (tkC t fa fn fc la ln lc self i).toArray 168)).alloc (Obj.cells thN.toArray 46)∧a_p W w.heap.size cs∧a_p W (w.heap.size+1) thN∧Below w.heap.size w W:=
 ⟨_,rfl,by rw [hcs];exact a_O _ (a_i _ _ rfl),a_i _ _ (by simp),by go_grown⟩
theorem c_s {t:Thr} {self:Int} {i:In4} {fa:Option Addr} {fn fc:Nat} {la:Option Addr} {ln lc:Nat} {cs:List Value} (hcs:cs=(tkC t fa fn fc la ln lc self i)):cs.toArray=(tkC t fa fn fc la ln lc self i).toArray:=by rw [hcs]
end Go.Proofs.YtolabfafgbmdbaaGreatDoor
namespace Go.Proofs.YtolabfafgbmdbaaGreatDoor
abbrev Bs:=List UInt8
def q_Q (b:UInt8):Bool:=decide (48≤b.toNat∧b.toNat≤57)
def q_W (b:UInt8):Bool:=decide (97≤b.toNat∧b.toNat≤122)
def q_I (l:Bs):Bool:=decide (1≤l.length∧l.length≤12)&&!q_Q (l.getD 0 0)&&l.all (fun b=>q_Q b||q_W b)
def q_0 (l:Bs):Int×Int:=if l.length=2∧(l.getD 0 0).toNat=114∧48≤(l.getD 1 0).toNat∧(l.getD 1 0).toNat≤55 then ((l.getD 1 0).toNat - 48,0) else (0,3)
def b_j (sign v many:Int):Bool:=if sign=114 then decide (0≤v∧v≤7) else if sign=110 then decide (-1000000000≤v∧v≤1000000000) else decide (0≤v∧v≤many)
end Go.Proofs.YtolabfafgbmdbaaGreatDoor
namespace Go.Proofs.YtolabfafgbmdbaaGreatDoor
open Go.ChangeShapes Go.WideShapes Go.ChangeAt Go.RowKit
open Gen
theorem k_n (s:ByteArray):s.size=s.data.toList.length:=Array.length_toList.symm
theorem d_L (s:ByteArray) (i:Nat) (h:i < s.size):s[i]'h=s.data.toList.getD i 0:=by
 have h':i < s.data.size:=h;rw [show s[i]'h=s.data[i]'h' from rfl,List.getD_eq_getElem?_getD,Array.getElem?_toList,Array.getElem?_eq_getElem h']
 rfl
theorem e_P (b v m:Int) (w:World):Calls Tryz.prog 107 #[.int .u8 b,.int .i64 v,.int .i64 m] w (g_a (b_j b v m) w):=by
 by_cases h1:b=114
 ·subst h1;exact J78
 ·by_cases h2:b=110
  ·subst h2;exact J78
  ·have e1:(b==114)=false:=by simpa using h1
   have e2:(b==110)=false:=by simpa using h2
   have HF:=Lib.hid (show b_j b v m=decide (0≤v∧v≤m) by rw [b_j,if_neg h1,if_neg h2]);clear h1 h2
   go_enter Tryz.func107,Tryz.ntmps107
   go_wp2
   all_goals
    go_ret
    refine b_8 ?_;rw [HF.out];rw [Bool.eq_iff_iff];simp
    try omega
end Go.Proofs.YtolabfafgbmdbaaGreatDoor
namespace Go.Proofs.YtolabfafgbmdbaaGreatDoor
def m_x (c:UInt8):Bs→List Bs
 | []=>[[]]
 | b::t=>if b=c then []::m_x c t else match m_x c t with | p::ps=>(b::p)::ps | []=>[[b]]
def q_X (l:Bs):Int×Int:=match Lib.atoiAll l with | .ok v=>if Lib.itoa v=l∧-1000000000≤v∧v≤1000000000 then (v,0) else (0,3) | _=>(0,3)
def opName:List Bs:=[[104,97,108,116],[115,101,116],[109,111,118,101],[112,108,117,115],[109,97,115,107],[97,100,100],[115,117,98],[97,110,100],[120,111,114],[108,101,115,115],[106,117,109,112],[122,101,114,111],[115,111,109,101],[99,97,108,108],[114,101,116],[115,101,108,102],[108,111,97,100],[115,116,111,114,101],[102,101,110,99,101],[99,97,115],[120,99,104,103],[102,101,116,99,104],[98,114,111,97,100],[119,97,105,116],[111,119,110],[100,114,111,112],[109,97,114,107]]
def opSign:List Bs:=[[],[114,110],[114,114],[114,114,110],[114,114,110],[114,114,114],[114,114,114],[114,114,114],[114,114,114],[114,114,114],[116],[114,116],[114,116],[116],[],[114],[114,114,110],[114,114,110],[],[114,114,114],[114,114],[114,114],[],[114,114],[114,114],[114,114],[110]]
def q_Y (l:Bs):Option Nat:=(List.range 27).find? (fun k=>decide (opName.getD k []=l))
def p_3 (sg:Bs):Prop:=sg.length≤3∧∀ i,i < sg.length→(sg.getD i 0).toNat=114∨(sg.getD i 0).toNat=110∨(sg.getD i 0).toNat=116
theorem j_4:∀ k,k < 27→p_3 (opSign.getD k []):=by
 have h:(List.range 27).all (fun k=>decide ((opSign.getD k []).length≤3)&&(List.range (opSign.getD k []).length).all (fun i=>decide (((opSign.getD k []).getD i 0).toNat=114∨((opSign.getD k []).getD i 0).toNat=110∨((opSign.getD k []).getD i 0).toNat=116)))=true:=by decide
 intro k hk;rw [List.all_eq_true] at h;have h1:=h k (List.mem_range.2 hk);rw [Bool.and_eq_true,decide_eq_true_eq,List.all_eq_true] at h1;exact ⟨h1.1,fun i hi=>by have:=h1.2 i (List.mem_range.2 hi);rwa [decide_eq_true_eq] at this⟩
def q_M (f:Bs→Option (Int×Int)) (l:Bs):Int×Int:=if q_I l=false then (0,3) else match f l with | none=>(0,11) | some p=>(p.2,0)
def q_J (f:Bs→Option (Int×Int)) (c:Nat) (p:Bs):Int×Int:=if c=114 then q_0 p else if c=110 then q_X p else q_M f p
def q_G (f:Bs→Option (Int×Int)) (sg:Bs) (ps:List Bs) (i:Nat):Int:=(q_J f (sg.getD i 0).toNat (ps.getD i [])).2
abbrev Ins:=Int×Int×Int×Int
end Go.Proofs.YtolabfafgbmdbaaGreatDoor
namespace Go.Proofs.YtolabfafgbmdbaaGreatDoor
open Go.ChangeShapes Go.WideShapes Go.ChangeAt Go.RowKit
open Gen
open Go.Maps (Keyed)
abbrev str (l:Bs):ByteArray:=⟨l.toArray⟩
def opCells:List Value:=(List.range 27).flatMap fun k=>[.string (str (opName.getD k [])),.string (str (opSign.getD k []))]
structure Glob (w:World):Prop where
 size:0+1≤w.heap.size
 ops:w.var? Tryz.prog "respite/asm.operations"=some opCells.toArray
theorem Tryz.gOps:Tryz.prog.globalNamed "respite/asm.operations"=some 0:=by kernel_rfl
theorem Glob.low {F:Nat} {w w':World} (hF:0+1≤F) (hb:Below F w w') (h:Glob w):Glob w' where
 size:=Nat.le_trans h.size hb.size
 ops:=var?_below hb Tryz.gOps (by omega) h.ops
theorem Glob.B {w w':World} (h:Glob w) (hb:Below w.heap.size w w'):Glob w':=h.low h.size hb
theorem Glob.A {w:World} (h:Glob w) (o:Obj):Glob (w.alloc o):=h.B ((Below.refl _ _).alloc (Nat.le_refl _) _)
theorem d_n (l:Bs):(str l).data.toList=l:=by simp
theorem d_T (l:Bs):(str l).size=l.length:=by rw [k_n,d_n]
end Go.Proofs.YtolabfafgbmdbaaGreatDoor
namespace Go.Proofs.YtolabfafgbmdbaaGreatDoor
open Go.ChangeShapes Go.WideShapes Go.ChangeAt Go.RowKit Go.Shelf
open Gen
attribute [local go_sem] Oper.semAt_some
abbrev Ln:={ x:Bs×Bool // x.1.length≤50000 }
def vals (ys:List Ln):List (Bs×Bool):=ys.map Subtype.val
end Go.Proofs.YtolabfafgbmdbaaGreatDoor
namespace Go.Proofs.YtolabfafgbmdbaaGreatDoor
open Go.ChangeShapes Go.WideShapes Go.ChangeAt Go.RowKit
open Gen
theorem n_7 {w:World} (G:Glob w):∃ t fr,w.heap[0]?=some (.cells opCells.toArray t fr):=by
 have h:=G.ops;simp only [World.var?,Tryz.gOps,Option.bind_some] at h
 split at h
 ·rename_i cs t fr hc
  injection h with h
  subst h;exact ⟨t,fr,hc⟩
 ·cases h
theorem n_8 {w:World} (G:Glob w) (k:Nat) (hk:k < 27):w.cell? ⟨0,k*2+1,none⟩=some (.string (str (opSign.getD k []))):=by
 obtain ⟨t,fr,h⟩:=n_7 G;rw [cell_of_row w _ _ _ t fr h];exact J49
def p_S (i:Ins):Value:=.agg #[.int .i64 i.1,.int .i64 i.2.1,.int .i64 i.2.2.1,.int .i64 i.2.2.2]
end Go.Proofs.YtolabfafgbmdbaaGreatDoor
namespace Go.Proofs.YtolabfafgbmdbaaGreatDoor
open Go.ChangeShapes Go.WideShapes Go.ChangeAt Go.RowKit
open Gen
open Lib (hid)
def c_6 (i:Ins) (k:Nat):Int:=if k=0 then i.2.1 else if k=1 then i.2.2.1 else i.2.2.2
def kOk (i:Ins) (m:Int) (sg:Bs) (k:Nat):Bool:=if k < sg.length then b_j (sg.getD k 0).toNat (c_6 i k) m else decide (c_6 i k=0)
def c_f (i:Ins) (m:Int):Bool:=decide (0≤i.1∧i.1 < 27)&&(List.range 3).all (kOk i m (opSign.getD i.1.toNat []))
theorem l_8 {i:Ins} {m:Int} (h:¬ (0≤i.1∧i.1 < 27)):c_f i m=false:=by simp only [c_f,decide_eq_false h,Bool.false_and]
theorem a_7 {i:Ins} {m:Int} {k:Nat} (hk:k < 3) (h:kOk i m (opSign.getD i.1.toNat []) k=false):c_f i m=false:=by
 cases hm:c_f i m with
 | false=>rfl
 | true =>
  simp only [c_f,Bool.and_eq_true,List.all_eq_true] at hm;have:=hm.2 k (List.mem_range.2 hk);rw [h] at this;cases this
theorem j_U {i:Ins} {m:Int} (h0:0≤i.1∧i.1 < 27) (h:∀ k,k < 3→kOk i m (opSign.getD i.1.toNat []) k=true):c_f i m=true:=by
 simp only [c_f,Bool.and_eq_true,decide_eq_true_eq,List.all_eq_true];exact ⟨h0,fun k hk=>h k (List.mem_range.1 hk)⟩
theorem p_7 (x y z:Value) (w:World):(Instr.index 151 (.agg #[x,y,z]) (.int .i64 0)).run Tryz.prog w=.ok x w:=by
 exact J80
theorem p_8 (x y z:Value) (w:World):(Instr.index 151 (.agg #[x,y,z]) (.int .i64 1)).run Tryz.prog w=.ok y w:=by
 exact J80
theorem p_9 (x y z:Value) (w:World):(Instr.index 151 (.agg #[x,y,z]) (.int .i64 2)).run Tryz.prog w=.ok z w:=by
 exact J80
theorem p_m (i:Ins) (m:Int) (w:World) (G:Glob w):Calls Tryz.prog 65 #[p_S i,.int .i64 m] w (a_B (c_f i m) w):=by
 obtain ⟨op,a,b,c⟩:=i
 show Calls Tryz.prog 65 #[.agg #[.int .i64 op,.int .i64 a,.int .i64 b,.int .i64 c],.int .i64 m] w (a_B (c_f (op,a,b,c) m) w)
 by_cases h0:0≤op∧op < 27
 ·obtain ⟨k,rfl⟩:∃ k:Nat,op=(k:Int):=⟨op.toNat,by omega⟩;have hk:k < 27:=by omega
  obtain ⟨sg,hsg⟩:=mn (opSign.getD k []);obtain ⟨s1,s2⟩:=j_4 k hk;rw [hsg] at s1 s2;have hop:(opSign.getD ((k:Int),a,b,c).1.toNat [])=sg:=by rw [←hsg];rfl
  have ⟨HOP,H0⟩:=hh2 hop h0;obtain ⟨W,hW⟩:=nm (w.alloc (Obj.cells #[.int .i64 k,.int .i64 a,.int .i64 b,.int .i64 c] 66));have X:a_p W w.heap.size [.int .i64 k,.int .i64 a,.int .i64 b,.int .i64 c]:=by rw [hW];exact a_i _ _ rfl
  have hB:=N2;have xs:=n_8 (G.B hB) k hk;rw [hsg] at xs;have ⟨HB,HW,HX⟩:=hh3 hB hW X;have i1:(0:Int)≤k:=by omega
  have i2:(k:Int) < 27:=by omega
  have i3:¬ (k:Int) < 0:=by omega
  have i4:¬ (27:Int)≤k:=by omega
  clear hsg hop h0 hW X hB s2 hk
  go_enter Tryz.func65,Tryz.ntmps65
  go_upto_region 1 with fail
  rw [←HW.out];have x0:=(HX.out 0 _ rfl).1;have x1:=(HX.out 1 _ rfl).1;have x2:=(HX.out 2 _ rfl).1;have x3:=(HX.out 3 _ rfl).1
  go_wp2
  go_loop [28] (fun i=>∃ j:Nat,j≤3∧i=.int .i64 j∧Hid (∀ q,q < j→kOk (k,a,b,c) m sg q=true)) (fun i=>3 - (intOf i).toNat)
  case atStart=>exact ⟨0,by omega,rfl,(show ∀ q,q < 0→_ from fun q hq=>by omega)⟩
  case round =>
   obtain ⟨j,hj,rfl,hok⟩:=hrel
   have hstep:∀ {j:Nat},(∀ q,q < j→kOk (k,a,b,c) m sg q=true)→kOk (k,a,b,c) m sg j=true→∀ q,q < j+1→kOk (k,a,b,c) m sg q=true:=fun h1 h2 q hq=>by
    rcases Nat.lt_succ_iff_lt_or_eq.1 hq with h | rfl
    ·exact h1 q h
    ·exact h2
   clear x0 x1 x2 x3 xs
   rcases (show j=0∨j=1∨j=2∨j=3 by omega) with rfl | rfl | rfl | rfl
   ·have ai:=fun w=>p_7 (.int .i64 a) (.int .i64 b) (.int .i64 c) w
    by_cases hlt:0 < sg.length
    ·have hjs:0 < (str sg).size:=by rw [d_T];exact hlt
     have hbt:(str sg)[0].toNat=(sg.getD 0 0).toNat:=by rw [d_L,d_n]
     obtain ⟨ch,hch⟩:=mn ((str sg)[0].toNat);have hv:kOk ((k:Int),a,b,c) m sg 0=b_j ch a m:=by rw [kOk,if_pos hlt,←hbt,hch];rfl
     have HV:=hid hv;have j1:¬ sg=[]:=by intro e;subst e;simp at hlt
     have j3:0 < sg.length:=hlt;have j2:(0:Int) < sg.length:=by omega
     clear hv hbt hlt;have hf:∀ w',Calls Tryz.prog 107 #[.int .u8 ((str sg)[0].toNat:Nat),.int .i64 a,.int .i64 m] w' (g_a (b_j ch a m) w'):=fun w'=>by rw [hch];exact e_P ch a m w'
     clear hch
     cases hb:b_j ch a m with
     | true =>
      have HS:=N118;rw [hb] at hf;clear hb hok hstep
      go_wp2_with fail
      refine (hf _).mono ?_;rintro e w' ⟨rfl,h⟩
      cases h
      go_wp2
      go_round
      case rel=>exact ⟨1,by omega,by go_num,HS.out⟩
      case measure=>simp [intOf]
     | false =>
      have HS:=hid (a_7 (i:=((k:Int),a,b,c)) (m:=m) (k:=0) (by omega) (by rw [HOP.out,HV.out];exact hb));exact J56
    ·have hv:=N111;have j1:sg=[]:=List.eq_nil_of_length_eq_zero (by omega);clear hlt
     by_cases hz:a=0
     ·have HS:=N84;have q:(a != 0)=false:=by simpa using hz
      clear hz hv hok hstep
      go_wp2
      go_round
      case rel=>exact ⟨1,by omega,by go_num,HS.out⟩
      case measure=>simp [intOf]
     ·have HS:=hid (a_7 (i:=((k:Int),a,b,c)) (m:=m) (k:=0) (by omega) (by rw [HOP.out,hv];exact decide_eq_false hz));have q:(a != 0)=true:=by simpa using hz
      clear hz hv hok hstep
      go_wp2
      go_ret
      exact a_e HS.out HB.out
   ·have ai:=fun w=>p_8 (.int .i64 a) (.int .i64 b) (.int .i64 c) w
    by_cases hlt:1 < sg.length
    ·have hjs:1 < (str sg).size:=by rw [d_T];exact hlt
     have hbt:(str sg)[1].toNat=(sg.getD 1 0).toNat:=by rw [d_L,d_n]
     obtain ⟨ch,hch⟩:=mn ((str sg)[1].toNat);have hv:kOk ((k:Int),a,b,c) m sg 1=b_j ch b m:=by rw [kOk,if_pos hlt,←hbt,hch];rfl
     have HV:=hid hv;have j1:¬ (sg.length:Int)≤1:=by omega
     have j2:(1:Int) < sg.length:=by omega
     clear hv hbt hlt;have hf:∀ w',Calls Tryz.prog 107 #[.int .u8 ((str sg)[1].toNat:Nat),.int .i64 b,.int .i64 m] w' (g_a (b_j ch b m) w'):=fun w'=>by rw [hch];exact e_P ch b m w'
     clear hch
     cases hb:b_j ch b m with
     | true =>
      have HS:=N118;rw [hb] at hf;clear hb hok hstep
      go_wp2_with fail
      refine (hf _).mono ?_;rintro e w' ⟨rfl,h⟩
      cases h
      go_wp2
      go_round
      case rel=>exact ⟨2,by omega,by go_num,HS.out⟩
      case measure=>simp [intOf]
     | false =>
      have HS:=hid (a_7 (i:=((k:Int),a,b,c)) (m:=m) (k:=1) (by omega) (by rw [HOP.out,HV.out];exact hb));exact J56
    ·have hv:=N112;have j1:(sg.length:Int)≤1:=by omega
     clear hlt
     by_cases hz:b=0
     ·have HS:=N84;have q:(b != 0)=false:=by simpa using hz
      clear hz hv hok hstep
      go_wp2
      go_round
      case rel=>exact ⟨2,by omega,by go_num,HS.out⟩
      case measure=>simp [intOf]
     ·have HS:=hid (a_7 (i:=((k:Int),a,b,c)) (m:=m) (k:=1) (by omega) (by rw [HOP.out,hv];exact decide_eq_false hz));have q:(b != 0)=true:=by simpa using hz
      clear hz hv hok hstep
      go_wp2
      go_ret
      exact a_e HS.out HB.out
   ·have ai:=fun w=>p_9 (.int .i64 a) (.int .i64 b) (.int .i64 c) w
    by_cases hlt:2 < sg.length
    ·have hjs:2 < (str sg).size:=by rw [d_T];exact hlt
     have hbt:(str sg)[2].toNat=(sg.getD 2 0).toNat:=by rw [d_L,d_n]
     obtain ⟨ch,hch⟩:=mn ((str sg)[2].toNat);have hv:kOk ((k:Int),a,b,c) m sg 2=b_j ch c m:=by rw [kOk,if_pos hlt,←hbt,hch];rfl
     have HV:=hid hv;have j1:¬ (sg.length:Int)≤2:=by omega
     have j2:(2:Int) < sg.length:=by omega
     clear hv hbt hlt;have hf:∀ w',Calls Tryz.prog 107 #[.int .u8 ((str sg)[2].toNat:Nat),.int .i64 c,.int .i64 m] w' (g_a (b_j ch c m) w'):=fun w'=>by rw [hch];exact e_P ch c m w'
     clear hch
     cases hb:b_j ch c m with
     | true =>
      have HS:=N118;rw [hb] at hf;clear hb hok hstep
      go_wp2_with fail
      refine (hf _).mono ?_;rintro e w' ⟨rfl,h⟩
      cases h
      go_wp2
      go_round
      case rel=>exact ⟨3,by omega,by go_num,HS.out⟩
      case measure=>simp [intOf]
     | false =>
      have HS:=hid (a_7 (i:=((k:Int),a,b,c)) (m:=m) (k:=2) (by omega) (by rw [HOP.out,HV.out];exact hb));exact J56
    ·have hv:=N113;have j1:(sg.length:Int)≤2:=by omega
     clear hlt
     by_cases hz:c=0
     ·have HS:=N84;have q:(c != 0)=false:=by simpa using hz
      clear hz hv hok hstep
      go_wp2
      go_round
      case rel=>exact ⟨3,by omega,by go_num,HS.out⟩
      case measure=>simp [intOf]
     ·have HS:=hid (a_7 (i:=((k:Int),a,b,c)) (m:=m) (k:=2) (by omega) (by rw [HOP.out,hv];exact decide_eq_false hz));have q:(c != 0)=true:=by simpa using hz
      clear hz hv hok hstep
      go_wp2
      go_ret
      exact a_e HS.out HB.out
   ·have HS:=N80;clear hok hstep
    go_wp2
    go_ret
    exact a_e HS.out HB.out
 ·have HS:=hid (l_8 (i:=(op,a,b,c)) (m:=m) h0)
  go_enter Tryz.func65,Tryz.ntmps65
  go_wp2
  all_goals first
   | (exfalso;omega)
   | (go_ret;exact a_e HS.out (by go_grown))
end Go.Proofs.YtolabfafgbmdbaaGreatDoor
namespace Go.Proofs.YtolabfafgbmdbaaGreatDoor
open Go.ChangeShapes Go.WideShapes Go.ChangeAt Go.RowKit Go.Shelf
open Gen
attribute [local go_sem] Oper.semAt_some
def i_Q (i:Ins):List Value:=[.int .i64 i.1,.int .i64 i.2.1,.int .i64 i.2.2.1,.int .i64 i.2.2.2]
theorem q_C {B k:Nat} {w:World} {e:TypeId} {v:Value} {n:Nat} {xs:List Value} (h:w.ownsRow B e k v n xs) (a:Addr) (ha:a.block < B) (x:Value):(w.setCell a x).ownsRow B e k v n xs:=by
 obtain ⟨h1,h2⟩:=h;refine ⟨h1,h2.imp id ?_⟩;rintro ⟨g,cap,cur,e1,e2,e3,e4⟩;refine ⟨g,cap,cur,e1,e2,?_,e4⟩;rw [World.setCell,Array.getElem?_modify,if_neg (by omega)];exact e3
def R3 (w W:World) (A B C:Value) (W':World):Prop:=
 KeepsOthers W W'∧Below w.heap.size w W'∧W'.cell? ⟨w.heap.size,0,none⟩=some A∧W'.cell? ⟨w.heap.size+1,0,none⟩=some B∧W'.cell? ⟨w.heap.size+1+1,0,none⟩=some C
section
variable {w W W':World} {A B C x:Value}
end
end Go.Proofs.YtolabfafgbmdbaaGreatDoor
namespace Go.Proofs.YtolabfafgbmdbaaGreatDoor
structure Read (f:Bs→Option (Int×Int)) (l:Bs) (k:Nat):Prop where
 op:q_Y ((m_x 32 l).getD 0 [])=some k
 len:(m_x 32 l).length - 1=(opSign.getD k []).length
 ok:∀ i,i < (opSign.getD k []).length→q_G f (opSign.getD k []) ((m_x 32 l).drop 1) i=0
end Go.Proofs.YtolabfafgbmdbaaGreatDoor
namespace Go.Proofs.YtolabfafgbmdbaaGreatDoor
open Go.ChangeShapes Go.WideShapes Go.ChangeAt Go.RowKit
open Gen
def repIns:Rep Ins:=o_K 4 (by decide) i_Q (fun _=>rfl)
theorem l_V {Q:Nat→Prop} {w:World} {b o:Nat} {i:Ins} (h:At repIns Q w b o i):w.cell? ⟨b,o,none⟩=some (.int .i64 i.1)∧w.cell? ⟨b,o+1,none⟩=some (.int .i64 i.2.1)∧w.cell? ⟨b,o+2,none⟩=some (.int .i64 i.2.2.1)∧w.cell? ⟨b,o+3,none⟩=some (.int .i64 i.2.2.2):=by
 obtain ⟨cs,h1,h2⟩:=h;have h1:cs=i_Q i:=h1;subst h1;exact ⟨h2 0 _ rfl,h2 1 _ rfl,h2 2 _ rfl,h2 3 _ rfl⟩
theorem j_d (k:Nat) (w:World) (hk:k < 27):Calls Tryz.prog 68 #[.int .i64 k] w fun e w'=>e=.returned (.string (str (opName.getD k [])))∧Below w.heap.size w w':=by
 have k0:(0:Int)≤k:=by omega
 have k1:(k:Int) < 27:=by omega
 go_enter Tryz.func68,Tryz.ntmps68
 exact J40
theorem h_0 (k:Nat) (w:World) (hk:k < 27):Calls Tryz.prog 69 #[.int .i64 k] w fun e w'=>e=.returned (.string (str (opSign.getD k [])))∧Below w.heap.size w w':=by
 have k0:(0:Int)≤k:=by omega
 have k1:(k:Int) < 27:=by omega
 go_enter Tryz.func69,Tryz.ntmps69
 exact J40
end Go.Proofs.YtolabfafgbmdbaaGreatDoor
namespace Go.Proofs.YtolabfafgbmdbaaGreatDoor
open Go.ChangeShapes Go.WideShapes Go.ChangeAt Go.RowKit
open Gen
open Lib (hid)
def b_q (c:List Ins):Bool:=decide (c.length≤1000)&&c.all (fun i=>c_f i c.length)
def i_q (c:List Ins) (n k:Nat):Prop:=∀ q i,q < k→c[q]?=some i→c_f i n=true
theorem g_C {c:List Ins} {n k:Nat} {i:Ins} (h:i_q c n k) (hi:c[k]?=some i) (h1:c_f i n=true):i_q c n (k+1):=fun q j hq hj=>by
 rcases Nat.lt_succ_iff_lt_or_eq.1 hq with h2 | rfl
 ·exact h q j h2 hj
 ·rw [hi] at hj;injection hj with hj;subst hj;exact h1
theorem g_E {c:List Ins} {n:Nat} (hl:c.length=n) (hn:n≤1000) (h:i_q c n n):b_q c=true:=by
 simp only [b_q,Bool.and_eq_true,decide_eq_true_eq,List.all_eq_true,hl];refine ⟨hn,fun i hi=>?_⟩;obtain ⟨q,hq,rfl⟩:=List.mem_iff_getElem.1 hi;exact h q _ (by omega) (by simp [hq])
theorem h_7 {c:List Ins} {n k:Nat} {i:Ins} (hl:c.length=n) (hi:c[k]?=some i) (h:c_f i n=false):b_q c=false:=by
 cases hr:b_q c with
 | false=>rfl
 | true =>
  simp only [b_q,Bool.and_eq_true,List.all_eq_true,hl] at hr;have:=hr.2 i (List.mem_of_getElem? hi);rw [h] at this;cases this
theorem f_R {c:List Ins} (h:¬ c.length≤1000):b_q c=false:=by simp [b_q,h]
theorem o_F {w:World} {p:Option Addr} {n:Nat} {t:List Ins} (S:Vs repIns Any w p n t) {k:Nat} (hk:k < n) :
  ∃ b o x0 x1 x2 x3,p=some ⟨b,o,none⟩∧t[k]?=some (x0,x1,x2,x3)∧w.cell? ⟨b,o+k*4,none⟩=some (.int .i64 x0)∧w.cell? ⟨b,o+k*4+1,none⟩=some (.int .i64 x1)∧w.cell? ⟨b,o+k*4+2,none⟩=some (.int .i64 x2)∧w.cell? ⟨b,o+k*4+3,none⟩=some (.int .i64 x3):=by
 obtain ⟨b,o,⟨x0,x1,x2,x3⟩,e,ht,_,hA⟩:=g_k S hk;rw [show repIns.k=4 from rfl] at hA;obtain ⟨h0,h1,h2,h3⟩:=l_V hA;exact ⟨b,o,x0,x1,x2,x3,e,ht,h0,h1,h2,h3⟩
theorem e_9 (a:Option Addr) (n c:Nat) (cs:List Ins) (w:World) (S:Vs repIns Any w a n cs) (hn:n≤9223372036854775807) (G:Glob w) :
  Calls Tryz.prog 30 #[.slice a n c] w (a_B (b_q cs) w):=by
 have Hn:=hid S.1
 by_cases h6:n≤1000
 ·have i6:¬ (1000:Int) < n:=by omega
  go_enter Tryz.func30,Tryz.ntmps30
  go_wp2
  go_loopw [10] (fun i wr=>∃ k:Nat,k≤n∧i=.int .i64 k∧Hid (i_q cs n k)∧Below w.heap.size w wr) (fun i _=>n - (intOf i).toNat)
  case atStart=>exact ⟨0,by omega,rfl,(show i_q cs n 0 from fun q i hq=>by omega),Below.refl _ _⟩
  case round =>
   obtain ⟨k,hk,rfl,hf,hb⟩:=hrel;obtain ⟨wo,hwo⟩:∃ wo:World,wo=wr:=⟨_,rfl⟩;subst hwo
   by_cases hlt:k < n
   ·obtain ⟨b,o,x0,x1,x2,x3,rfl,hx,g0,g1,g2,g3⟩:=o_F (e_h hb S) hlt;have ⟨HX,HB⟩:=hh2 hx hb;have GG:=hid ((G.B hb).A (Obj.cells #[.int .i64 x0,.int .i64 x1,.int .i64 x2,.int .i64 x3] 66));have HB2:=N65;have i1:(0:Int)≤k:=by omega
    have i2:(k:Int) < n:=by omega
    clear hx hb;obtain ⟨mb,hmb⟩:=mn (c_f (x0,x1,x2,x3) n);have HM:=hid hmb;clear hmb
    go_wp2_with fail
    have h0:=p_m (x0,x1,x2,x3) n _ GG.out;exact J45
   ·obtain rfl:k=n:=by omega
    have HB:=hid hb;clear hb
    go_wp2
    go_ret
    exact a_e (g_E Hn.out h6 hf.out) HB.out
 ·have i6:(1000:Int) < n:=by omega
  have HS:=hid (f_R (c:=cs) (by rw [Hn.out];exact h6));clear h6
  go_enter Tryz.func30,Tryz.ntmps30
  go_wp2
  go_ret
  exact a_e HS.out (Below.refl _ _)
theorem a_t (i:Ins) (k:Nat) (w:World) (hk:k < 3):Calls Tryz.prog 70 #[p_S i,.int .i64 k] w fun e w'=>e=.returned (.int .i64 (c_6 i k))∧Below w.heap.size w w':=by
 obtain ⟨op,a,b,c⟩:=i
 rcases (show k=0∨k=1∨k=2 by omega) with rfl | rfl | rfl
 all_goals
  unfold p_S
  go_enter Tryz.func70,Tryz.ntmps70
  go_wp2
  go_ret
  exact ⟨rfl,by go_grown⟩
theorem k_P (k:Int) (w:World) (hk:¬ (0≤k∧k < 27)):Calls Tryz.prog 68 #[.int .i64 k] w fun e w'=>e=.returned (.string (str []))∧Below w.heap.size w w':=by
 go_enter Tryz.func68,Tryz.ntmps68
 go_wp2
 all_goals first
  | (exfalso;omega)
  | (go_ret;exact ⟨rfl,by go_grown⟩)
end Go.Proofs.YtolabfafgbmdbaaGreatDoor
