import Derived.Lib.ItoaNum
import Derived.Lib.AtoiAll
import Derived.Test.YtolabfafgbmdbaaGreatDoorQ1
import Derived.Test.YtolabfafgbmdbaaGreatDoorQ0
import Derived.Lib.Split
import Derived.Lib.IndexLaws
import Derived.Lib.IndexBytes
import Derived.WalkSmall
import Derived.Maps.OwnIn
import Derived.Maps.OwnSet
import Derived.Maps.Views
import Derived.Lib.AppendIntMem
import Derived.Lib.ItoaLen
import Derived.Lib.AtoiErrMem
import Derived.RangeFuncNested
import Derived.RangeFuncBox
import Derived.RangeFuncBound
import Derived.RangeFuncCalls
import Derived.RangeFuncLeaves
import Derived.OwnWalkIn
import Derived.TacticsInMore
import Derived.LoopNIn
import Derived.LoopIn
import Derived.Shelf.Abstract
import Derived.Laws.Rows
import Derived.Deep.DeepCutAuto
import Derived.Maps.AppendAt
import Derived.Deep.AppendLies
import Derived.Shelf.RegionOpen
import Derived.Lib.AtoiAllCases
set_option maxRecDepth 100000
set_option maxHeartbeats 16000000
namespace Go.Proofs.YtolabfafgbmdbaaGreatDoor
abbrev Bs:=List UInt8
def u_L (b:UInt8):Bool:=decide (48≤b.toNat∧b.toNat≤57)
def u_S (b:UInt8):Bool:=decide (97≤b.toNat∧b.toNat≤122)
def u_w (l:Bs):Bool:=decide (1≤l.length∧l.length≤12)&&!u_L (l.getD 0 0)&&l.all (fun b=>u_L b||u_S b)
def u_V (l:Bs):Int×Int:=if l.length=2∧(l.getD 0 0).toNat=114∧48≤(l.getD 1 0).toNat∧(l.getD 1 0).toNat≤55 then ((l.getD 1 0).toNat - 48,0) else (0,3)
def b_V (sign v many:Int):Bool:=if sign=114 then decide (0≤v∧v≤7) else if sign=110 then decide (-1000000000≤v∧v≤1000000000) else decide (0≤v∧v≤many)
end Go.Proofs.YtolabfafgbmdbaaGreatDoor
namespace Go.Proofs.YtolabfafgbmdbaaGreatDoor
open Go.ChangeShapes Go.WideShapes Go.ChangeAt Go.RowKit
open Gen
theorem m_I (s:ByteArray):s.size=s.data.toList.length:=Array.length_toList.symm
theorem e_6 (s:ByteArray) (i:Nat) (h:i < s.size):s[i]'h=s.data.toList.getD i 0:=by
 have h':i < s.data.size:=h;rw [show s[i]'h=s.data[i]'h' from rfl,List.getD_eq_getElem?_getD,Array.getElem?_toList,Array.getElem?_eq_getElem h']
 rfl
theorem g_a (b v m:Int) (w:World):Calls Tryz.prog 107 #[.int .u8 b,.int .i64 v,.int .i64 m] w (g_X (b_V b v m) w):=by
 by_cases h1:b=114
 ·subst h1;exact J96
 ·by_cases h2:b=110
  ·subst h2;exact J96
  ·have e1:(b==114)=false:=by simpa using h1
   have e2:(b==110)=false:=by simpa using h2
   have HF:=Lib.hid (show b_V b v m=decide (0≤v∧v≤m) by rw [b_V,if_neg h1,if_neg h2]);clear h1 h2
   go_enter Tryz.func107,Tryz.ntmps107
   go_wp2
   all_goals
    go_ret
    refine c_U ?_;rw [HF.out];rw [Bool.eq_iff_iff];simp
    try omega
end Go.Proofs.YtolabfafgbmdbaaGreatDoor
namespace Go.Proofs.YtolabfafgbmdbaaGreatDoor
def p_i (c:UInt8):Bs→List Bs
 | []=>[[]]
 | b::t=>if b=c then []::p_i c t else match p_i c t with | p::ps=>(b::p)::ps | []=>[[b]]
def u_T (l:Bs):Int×Int:=match Lib.atoiAll l with | .ok v=>if Lib.itoa v=l∧-1000000000≤v∧v≤1000000000 then (v,0) else (0,3) | _=>(0,3)
def opName:List Bs:=[[104,97,108,116],[115,101,116],[109,111,118,101],[112,108,117,115],[109,97,115,107],[97,100,100],[115,117,98],[97,110,100],[120,111,114],[108,101,115,115],[106,117,109,112],[122,101,114,111],[115,111,109,101],[99,97,108,108],[114,101,116],[115,101,108,102],[108,111,97,100],[115,116,111,114,101],[102,101,110,99,101],[99,97,115],[120,99,104,103],[102,101,116,99,104],[98,114,111,97,100],[119,97,105,116],[111,119,110],[100,114,111,112],[109,97,114,107]]
def opSign:List Bs:=[[],[114,110],[114,114],[114,114,110],[114,114,110],[114,114,114],[114,114,114],[114,114,114],[114,114,114],[114,114,114],[116],[114,116],[114,116],[116],[],[114],[114,114,110],[114,114,110],[],[114,114,114],[114,114],[114,114],[],[114,114],[114,114],[114,114],[110]]
def u_U (l:Bs):Option Nat:=(List.range 27).find? (fun k=>decide (opName.getD k []=l))
def t_J (sg:Bs):Prop:=sg.length≤3∧∀ i,i < sg.length→(sg.getD i 0).toNat=114∨(sg.getD i 0).toNat=110∨(sg.getD i 0).toNat=116
theorem m_h:∀ k,k < 27→t_J (opSign.getD k []):=by
 have h:(List.range 27).all (fun k=>decide ((opSign.getD k []).length≤3)&&(List.range (opSign.getD k []).length).all (fun i=>decide (((opSign.getD k []).getD i 0).toNat=114∨((opSign.getD k []).getD i 0).toNat=110∨((opSign.getD k []).getD i 0).toNat=116)))=true:=by decide
 intro k hk;rw [List.all_eq_true] at h;have h1:=h k (List.mem_range.2 hk);rw [Bool.and_eq_true,decide_eq_true_eq,List.all_eq_true] at h1;exact ⟨h1.1,fun i hi=>by have:=h1.2 i (List.mem_range.2 hi);rwa [decide_eq_true_eq] at this⟩
def u_C (f:Bs→Option (Int×Int)) (l:Bs):Int×Int:=if u_w l=false then (0,3) else match f l with | none=>(0,11) | some p=>(p.2,0)
def u_z (f:Bs→Option (Int×Int)) (c:Nat) (p:Bs):Int×Int:=if c=114 then u_V p else if c=110 then u_T p else u_C f p
def u_u (f:Bs→Option (Int×Int)) (sg:Bs) (ps:List Bs) (i:Nat):Int:=(u_z f (sg.getD i 0).toNat (ps.getD i [])).2
abbrev Ins:=Int×Int×Int×Int
end Go.Proofs.YtolabfafgbmdbaaGreatDoor
namespace Go.Proofs.YtolabfafgbmdbaaGreatDoor
open Go.ChangeShapes Go.WideShapes Go.ChangeAt Go.RowKit
open Gen
open Go.Maps (Keyed)
abbrev str (l:Bs):ByteArray:=⟨l.toArray⟩
def opCells:List Value:=(List.range 27).flatMap fun k=>[.string (str (opName.getD k [])),.string (str (opSign.getD k []))]
structure Glob (w:World):Prop where
 size:0+1≤w.heap.size
 ops:w.var? Tryz.prog "respite/asm.operations"=some opCells.toArray
theorem Tryz.gOps:Tryz.prog.globalNamed "respite/asm.operations"=some 0:=by kernel_rfl
theorem Glob.low {F:Nat} {w w':World} (hF:0+1≤F) (hb:Below F w w') (h:Glob w):Glob w' where
 size:=Nat.le_trans h.size hb.size
 ops:=var?_below hb Tryz.gOps (by omega) h.ops
theorem Glob.B {w w':World} (h:Glob w) (hb:Below w.heap.size w w'):Glob w':=h.low h.size hb
theorem Glob.A {w:World} (h:Glob w) (o:Obj):Glob (w.alloc o):=h.B ((Below.refl _ _).alloc (Nat.le_refl _) _)
theorem e_v (l:Bs):(str l).data.toList=l:=by simp
theorem f_d (l:Bs):(str l).size=l.length:=by rw [m_I,e_v]
end Go.Proofs.YtolabfafgbmdbaaGreatDoor
namespace Go.Proofs.YtolabfafgbmdbaaGreatDoor
open Go.ChangeShapes Go.WideShapes Go.ChangeAt Go.RowKit Go.Shelf
open Gen
attribute [local go_sem] Oper.semAt_some
abbrev Ln:={ x:Bs×Bool // x.1.length≤50000 }
def vals (ys:List Ln):List (Bs×Bool):=ys.map Subtype.val
end Go.Proofs.YtolabfafgbmdbaaGreatDoor
namespace Go.Proofs.YtolabfafgbmdbaaGreatDoor
open Go.ChangeShapes Go.WideShapes Go.ChangeAt Go.RowKit
open Gen
theorem r_a {w:World} (G:Glob w):∃ t fr,w.heap[0]?=some (.cells opCells.toArray t fr):=by
 have h:=G.ops;simp only [World.var?,Tryz.gOps,Option.bind_some] at h
 split at h
 ·rename_i cs t fr hc
  injection h with h
  subst h;exact ⟨t,fr,hc⟩
 ·cases h
theorem r_b {w:World} (G:Glob w) (k:Nat) (hk:k < 27):w.cell? ⟨0,k*2+1,none⟩=some (.string (str (opSign.getD k []))):=by
 obtain ⟨t,fr,h⟩:=r_a G;rw [cell_of_row w _ _ _ t fr h];exact J63
def t_s (i:Ins):Value:=.agg #[.int .i64 i.1,.int .i64 i.2.1,.int .i64 i.2.2.1,.int .i64 i.2.2.2]
end Go.Proofs.YtolabfafgbmdbaaGreatDoor
namespace Go.Proofs.YtolabfafgbmdbaaGreatDoor
open Go.ChangeShapes Go.WideShapes Go.ChangeAt Go.RowKit
open Gen
open Lib (hid)
def e_f (i:Ins) (k:Nat):Int:=if k=0 then i.2.1 else if k=1 then i.2.2.1 else i.2.2.2
def kOk (i:Ins) (m:Int) (sg:Bs) (k:Nat):Bool:=if k < sg.length then b_V (sg.getD k 0).toNat (e_f i k) m else decide (e_f i k=0)
def c_Q (i:Ins) (m:Int):Bool:=decide (0≤i.1∧i.1 < 27)&&(List.range 3).all (kOk i m (opSign.getD i.1.toNat []))
theorem o_P {i:Ins} {m:Int} (h:¬ (0≤i.1∧i.1 < 27)):c_Q i m=false:=by simp only [c_Q,decide_eq_false h,Bool.false_and]
theorem b_I {i:Ins} {m:Int} {k:Nat} (hk:k < 3) (h:kOk i m (opSign.getD i.1.toNat []) k=false):c_Q i m=false:=by
 cases hm:c_Q i m with
 | false=>rfl
 | true =>
  simp only [c_Q,Bool.and_eq_true,List.all_eq_true] at hm;have:=hm.2 k (List.mem_range.2 hk);rw [h] at this;cases this
theorem l_2 {i:Ins} {m:Int} (h0:0≤i.1∧i.1 < 27) (h:∀ k,k < 3→kOk i m (opSign.getD i.1.toNat []) k=true):c_Q i m=true:=by
 simp only [c_Q,Bool.and_eq_true,decide_eq_true_eq,List.all_eq_true];exact ⟨h0,fun k hk=>h k (List.mem_range.1 hk)⟩
theorem t_N (x y z:Value) (w:World):(Instr.index 151 (.agg #[x,y,z]) (.int .i64 0)).run Tryz.prog w=.ok x w:=by
 exact J97
theorem t_O (x y z:Value) (w:World):(Instr.index 151 (.agg #[x,y,z]) (.int .i64 1)).run Tryz.prog w=.ok y w:=by
 exact J97
theorem t_P (x y z:Value) (w:World):(Instr.index 151 (.agg #[x,y,z]) (.int .i64 2)).run Tryz.prog w=.ok z w:=by
 exact J97
theorem s_T (i:Ins) (m:Int) (w:World) (G:Glob w):Calls Tryz.prog 65 #[t_s i,.int .i64 m] w (a_1 (c_Q i m) w):=by
 obtain ⟨op,a,b,c⟩:=i
 show Calls Tryz.prog 65 #[.agg #[.int .i64 op,.int .i64 a,.int .i64 b,.int .i64 c],.int .i64 m] w (a_1 (c_Q (op,a,b,c) m) w)
 by_cases h0:0≤op∧op < 27
 ·obtain ⟨k,rfl⟩:∃ k:Nat,op=(k:Int):=⟨op.toNat,by omega⟩;have hk:k < 27:=by omega
  obtain ⟨sg,hsg⟩:=mn (opSign.getD k []);obtain ⟨s1,s2⟩:=m_h k hk;rw [hsg] at s1 s2;have hop:(opSign.getD ((k:Int),a,b,c).1.toNat [])=sg:=by rw [←hsg];rfl
  have ⟨HOP,H0⟩:=hh2 hop h0;obtain ⟨W,hW⟩:=nm (w.alloc (Obj.cells #[.int .i64 k,.int .i64 a,.int .i64 b,.int .i64 c] 66));have X:a_p W w.heap.size [.int .i64 k,.int .i64 a,.int .i64 b,.int .i64 c]:=by rw [hW];exact a_e _ _ rfl
  have hB:=N2;have xs:=r_b (G.B hB) k hk;rw [hsg] at xs;have ⟨HB,HW,HX⟩:=hh3 hB hW X;have i1:(0:Int)≤k:=by omega
  have i2:(k:Int) < 27:=by omega
  have i3:¬ (k:Int) < 0:=by omega
  have i4:¬ (27:Int)≤k:=by omega
  clear hsg hop h0 hW X hB s2 hk
  go_enter Tryz.func65,Tryz.ntmps65
  go_upto_region 1 with fail
  rw [←HW.out];have x0:=(HX.out 0 _ rfl).1;have x1:=(HX.out 1 _ rfl).1;have x2:=(HX.out 2 _ rfl).1;have x3:=(HX.out 3 _ rfl).1
  go_wp2
  go_loop [28] (fun i=>∃ j:Nat,j≤3∧i=.int .i64 j∧Hid (∀ q,q < j→kOk (k,a,b,c) m sg q=true)) (fun i=>3 - (intOf i).toNat)
  case atStart=>exact ⟨0,by omega,rfl,(show ∀ q,q < 0→_ from fun q hq=>by omega)⟩
  case round =>
   obtain ⟨j,hj,rfl,hok⟩:=hrel
   have hstep:∀ {j:Nat},(∀ q,q < j→kOk (k,a,b,c) m sg q=true)→kOk (k,a,b,c) m sg j=true→∀ q,q < j+1→kOk (k,a,b,c) m sg q=true:=fun h1 h2 q hq=>by
    rcases Nat.lt_succ_iff_lt_or_eq.1 hq with h | rfl
    ·exact h1 q h
    ·exact h2
   clear x0 x1 x2 x3 xs
   rcases (show j=0∨j=1∨j=2∨j=3 by omega) with rfl | rfl | rfl | rfl
   ·have ai:=fun w=>t_N (.int .i64 a) (.int .i64 b) (.int .i64 c) w
    by_cases hlt:0 < sg.length
    ·have hjs:0 < (str sg).size:=by rw [f_d];exact hlt
     have hbt:(str sg)[0].toNat=(sg.getD 0 0).toNat:=by rw [e_6,e_v]
     obtain ⟨ch,hch⟩:=mn ((str sg)[0].toNat);have hv:kOk ((k:Int),a,b,c) m sg 0=b_V ch a m:=by rw [kOk,if_pos hlt,←hbt,hch];rfl
     have HV:=hid hv;have j1:¬ sg=[]:=by intro e;subst e;simp at hlt
     have j3:0 < sg.length:=hlt;have j2:(0:Int) < sg.length:=by omega
     clear hv hbt hlt;have hf:∀ w',Calls Tryz.prog 107 #[.int .u8 ((str sg)[0].toNat:Nat),.int .i64 a,.int .i64 m] w' (g_X (b_V ch a m) w'):=fun w'=>by rw [hch];exact g_a ch a m w'
     clear hch
     cases hb:b_V ch a m with
     | true =>
      have HS:=N246;rw [hb] at hf;clear hb hok hstep
      go_wp2_with fail
      refine (hf _).mono ?_;rintro e w' ⟨rfl,h⟩
      cases h
      go_wp2
      go_round
      case rel=>exact ⟨1,by omega,by go_num,HS.out⟩
      case measure=>simp [intOf]
     | false =>
      have HS:=hid (b_I (i:=((k:Int),a,b,c)) (m:=m) (k:=0) (by omega) (by rw [HOP.out,HV.out];exact hb));exact J72
    ·have hv:=N236;have j1:sg=[]:=List.eq_nil_of_length_eq_zero (by omega);clear hlt
     by_cases hz:a=0
     ·have HS:=N197;have q:(a != 0)=false:=by simpa using hz
      clear hz hv hok hstep
      go_wp2
      go_round
      case rel=>exact ⟨1,by omega,by go_num,HS.out⟩
      case measure=>simp [intOf]
     ·have HS:=hid (b_I (i:=((k:Int),a,b,c)) (m:=m) (k:=0) (by omega) (by rw [HOP.out,hv];exact decide_eq_false hz));have q:(a != 0)=true:=by simpa using hz
      clear hz hv hok hstep
      go_wp2
      go_ret
      exact a_i HS.out HB.out
   ·have ai:=fun w=>t_O (.int .i64 a) (.int .i64 b) (.int .i64 c) w
    by_cases hlt:1 < sg.length
    ·have hjs:1 < (str sg).size:=by rw [f_d];exact hlt
     have hbt:(str sg)[1].toNat=(sg.getD 1 0).toNat:=by rw [e_6,e_v]
     obtain ⟨ch,hch⟩:=mn ((str sg)[1].toNat);have hv:kOk ((k:Int),a,b,c) m sg 1=b_V ch b m:=by rw [kOk,if_pos hlt,←hbt,hch];rfl
     have HV:=hid hv;have j1:¬ (sg.length:Int)≤1:=by omega
     have j2:(1:Int) < sg.length:=by omega
     clear hv hbt hlt;have hf:∀ w',Calls Tryz.prog 107 #[.int .u8 ((str sg)[1].toNat:Nat),.int .i64 b,.int .i64 m] w' (g_X (b_V ch b m) w'):=fun w'=>by rw [hch];exact g_a ch b m w'
     clear hch
     cases hb:b_V ch b m with
     | true =>
      have HS:=N246;rw [hb] at hf;clear hb hok hstep
      go_wp2_with fail
      refine (hf _).mono ?_;rintro e w' ⟨rfl,h⟩
      cases h
      go_wp2
      go_round
      case rel=>exact ⟨2,by omega,by go_num,HS.out⟩
      case measure=>simp [intOf]
     | false =>
      have HS:=hid (b_I (i:=((k:Int),a,b,c)) (m:=m) (k:=1) (by omega) (by rw [HOP.out,HV.out];exact hb));exact J72
    ·have hv:=N237;have j1:(sg.length:Int)≤1:=by omega
     clear hlt
     by_cases hz:b=0
     ·have HS:=N197;have q:(b != 0)=false:=by simpa using hz
      clear hz hv hok hstep
      go_wp2
      go_round
      case rel=>exact ⟨2,by omega,by go_num,HS.out⟩
      case measure=>simp [intOf]
     ·have HS:=hid (b_I (i:=((k:Int),a,b,c)) (m:=m) (k:=1) (by omega) (by rw [HOP.out,hv];exact decide_eq_false hz));have q:(b != 0)=true:=by simpa using hz
      clear hz hv hok hstep
      go_wp2
      go_ret
      exact a_i HS.out HB.out
   ·have ai:=fun w=>t_P (.int .i64 a) (.int .i64 b) (.int .i64 c) w
    by_cases hlt:2 < sg.length
    ·have hjs:2 < (str sg).size:=by rw [f_d];exact hlt
     have hbt:(str sg)[2].toNat=(sg.getD 2 0).toNat:=by rw [e_6,e_v]
     obtain ⟨ch,hch⟩:=mn ((str sg)[2].toNat);have hv:kOk ((k:Int),a,b,c) m sg 2=b_V ch c m:=by rw [kOk,if_pos hlt,←hbt,hch];rfl
     have HV:=hid hv;have j1:¬ (sg.length:Int)≤2:=by omega
     have j2:(2:Int) < sg.length:=by omega
     clear hv hbt hlt;have hf:∀ w',Calls Tryz.prog 107 #[.int .u8 ((str sg)[2].toNat:Nat),.int .i64 c,.int .i64 m] w' (g_X (b_V ch c m) w'):=fun w'=>by rw [hch];exact g_a ch c m w'
     clear hch
     cases hb:b_V ch c m with
     | true =>
      have HS:=N246;rw [hb] at hf;clear hb hok hstep
      go_wp2_with fail
      refine (hf _).mono ?_;rintro e w' ⟨rfl,h⟩
      cases h
      go_wp2
      go_round
      case rel=>exact ⟨3,by omega,by go_num,HS.out⟩
      case measure=>simp [intOf]
     | false =>
      have HS:=hid (b_I (i:=((k:Int),a,b,c)) (m:=m) (k:=2) (by omega) (by rw [HOP.out,HV.out];exact hb));exact J72
    ·have hv:=N238;have j1:(sg.length:Int)≤2:=by omega
     clear hlt
     by_cases hz:c=0
     ·have HS:=N197;have q:(c != 0)=false:=by simpa using hz
      clear hz hv hok hstep
      go_wp2
      go_round
      case rel=>exact ⟨3,by omega,by go_num,HS.out⟩
      case measure=>simp [intOf]
     ·have HS:=hid (b_I (i:=((k:Int),a,b,c)) (m:=m) (k:=2) (by omega) (by rw [HOP.out,hv];exact decide_eq_false hz));have q:(c != 0)=true:=by simpa using hz
      clear hz hv hok hstep
      go_wp2
      go_ret
      exact a_i HS.out HB.out
   ·have HS:=N188;clear hok hstep
    go_wp2
    go_ret
    exact a_i HS.out HB.out
 ·have HS:=hid (o_P (i:=(op,a,b,c)) (m:=m) h0)
  go_enter Tryz.func65,Tryz.ntmps65
  go_wp2
  all_goals first
   | (exfalso;omega)
   | (go_ret;exact a_i HS.out (by go_grown))
end Go.Proofs.YtolabfafgbmdbaaGreatDoor
namespace Go.Proofs.YtolabfafgbmdbaaGreatDoor
open Go.ChangeShapes Go.WideShapes Go.ChangeAt Go.RowKit Go.Shelf
open Gen
attribute [local go_sem] Oper.semAt_some
def g_G (i:Ins):List Value:=[.int .i64 i.1,.int .i64 i.2.1,.int .i64 i.2.2.1,.int .i64 i.2.2.2]
theorem u_k {B k:Nat} {w:World} {e:TypeId} {v:Value} {n:Nat} {xs:List Value} (h:w.ownsRow B e k v n xs) (a:Addr) (ha:a.block < B) (x:Value):(w.setCell a x).ownsRow B e k v n xs:=by
 obtain ⟨h1,h2⟩:=h;refine ⟨h1,h2.imp id ?_⟩;rintro ⟨g,cap,cur,e1,e2,e3,e4⟩;refine ⟨g,cap,cur,e1,e2,?_,e4⟩;rw [World.setCell,Array.getElem?_modify,if_neg (by omega)];exact e3
def R3 (w W:World) (A B C:Value) (W':World):Prop:=
 KeepsOthers W W'∧Below w.heap.size w W'∧W'.cell? ⟨w.heap.size,0,none⟩=some A∧W'.cell? ⟨w.heap.size+1,0,none⟩=some B∧W'.cell? ⟨w.heap.size+1+1,0,none⟩=some C
section
variable {w W W':World} {A B C x:Value}
end
end Go.Proofs.YtolabfafgbmdbaaGreatDoor
namespace Go.Proofs.YtolabfafgbmdbaaGreatDoor
structure Read (f:Bs→Option (Int×Int)) (l:Bs) (k:Nat):Prop where
 op:u_U ((p_i 32 l).getD 0 [])=some k
 len:(p_i 32 l).length - 1=(opSign.getD k []).length
 ok:∀ i,i < (opSign.getD k []).length→u_u f (opSign.getD k []) ((p_i 32 l).drop 1) i=0
end Go.Proofs.YtolabfafgbmdbaaGreatDoor
namespace Go.Proofs.YtolabfafgbmdbaaGreatDoor
open Go.ChangeShapes Go.WideShapes Go.ChangeAt Go.RowKit
open Gen
def repIns:Rep Ins:=r_m 4 (by decide) g_G (fun _=>rfl)
theorem l_V {Q:Nat→Prop} {w:World} {b o:Nat} {i:Ins} (h:At repIns Q w b o i):w.cell? ⟨b,o,none⟩=some (.int .i64 i.1)∧w.cell? ⟨b,o+1,none⟩=some (.int .i64 i.2.1)∧w.cell? ⟨b,o+2,none⟩=some (.int .i64 i.2.2.1)∧w.cell? ⟨b,o+3,none⟩=some (.int .i64 i.2.2.2):=by
 obtain ⟨cs,h1,h2⟩:=h;have h1:cs=g_G i:=h1;subst h1;exact ⟨h2 0 _ rfl,h2 1 _ rfl,h2 2 _ rfl,h2 3 _ rfl⟩
theorem l_c (k:Nat) (w:World) (hk:k < 27):Calls Tryz.prog 68 #[.int .i64 k] w fun e w'=>e=.returned (.string (str (opName.getD k [])))∧Below w.heap.size w w':=by
 have k0:(0:Int)≤k:=by omega
 have k1:(k:Int) < 27:=by omega
 go_enter Tryz.func68,Tryz.ntmps68
 exact J51
theorem j_O (k:Nat) (w:World) (hk:k < 27):Calls Tryz.prog 69 #[.int .i64 k] w fun e w'=>e=.returned (.string (str (opSign.getD k [])))∧Below w.heap.size w w':=by
 have k0:(0:Int)≤k:=by omega
 have k1:(k:Int) < 27:=by omega
 go_enter Tryz.func69,Tryz.ntmps69
 exact J51
end Go.Proofs.YtolabfafgbmdbaaGreatDoor
namespace Go.Proofs.YtolabfafgbmdbaaGreatDoor
open Go.ChangeShapes Go.WideShapes Go.ChangeAt Go.RowKit
open Gen
open Lib (hid)
def b_8 (c:List Ins):Bool:=decide (c.length≤1000)&&c.all (fun i=>c_Q i c.length)
def k_n (c:List Ins) (n k:Nat):Prop:=∀ q i,q < k→c[q]?=some i→c_Q i n=true
theorem i_d {c:List Ins} {n k:Nat} {i:Ins} (h:k_n c n k) (hi:c[k]?=some i) (h1:c_Q i n=true):k_n c n (k+1):=fun q j hq hj=>by
 rcases Nat.lt_succ_iff_lt_or_eq.1 hq with h2 | rfl
 ·exact h q j h2 hj
 ·rw [hi] at hj;injection hj with hj;subst hj;exact h1
theorem i_g {c:List Ins} {n:Nat} (hl:c.length=n) (hn:n≤1000) (h:k_n c n n):b_8 c=true:=by
 simp only [b_8,Bool.and_eq_true,decide_eq_true_eq,List.all_eq_true,hl];refine ⟨hn,fun i hi=>?_⟩;obtain ⟨q,hq,rfl⟩:=List.mem_iff_getElem.1 hi;exact h q _ (by omega) (by simp [hq])
theorem j_X {c:List Ins} {n k:Nat} {i:Ins} (hl:c.length=n) (hi:c[k]?=some i) (h:c_Q i n=false):b_8 c=false:=by
 cases hr:b_8 c with
 | false=>rfl
 | true =>
  simp only [b_8,Bool.and_eq_true,List.all_eq_true,hl] at hr;have:=hr.2 i (List.mem_of_getElem? hi);rw [h] at this;cases this
theorem h_r {c:List Ins} (h:¬ c.length≤1000):b_8 c=false:=by simp [b_8,h]
theorem l_W {w:World} {p:Option Addr} {n:Nat} {t:List Ins} (S:Vs repIns Any w p n t) {k:Nat} (hk:k < n) :
  ∃ b o x0 x1 x2 x3,p=some ⟨b,o,none⟩∧t[k]?=some (x0,x1,x2,x3)∧w.cell? ⟨b,o+k*4,none⟩=some (.int .i64 x0)∧w.cell? ⟨b,o+k*4+1,none⟩=some (.int .i64 x1)∧w.cell? ⟨b,o+k*4+2,none⟩=some (.int .i64 x2)∧w.cell? ⟨b,o+k*4+3,none⟩=some (.int .i64 x3):=by
 obtain ⟨b,o,⟨x0,x1,x2,x3⟩,e,ht,_,hA⟩:=g_I S hk;rw [show repIns.k=4 from rfl] at hA;obtain ⟨h0,h1,h2,h3⟩:=l_V hA;exact ⟨b,o,x0,x1,x2,x3,e,ht,h0,h1,h2,h3⟩
theorem g_v (a:Option Addr) (n c:Nat) (cs:List Ins) (w:World) (S:Vs repIns Any w a n cs) (hn:n≤9223372036854775807) (G:Glob w) :
  Calls Tryz.prog 30 #[.slice a n c] w (a_1 (b_8 cs) w):=by
 have Hn:=hid S.1
 by_cases h6:n≤1000
 ·have i6:¬ (1000:Int) < n:=by omega
  go_enter Tryz.func30,Tryz.ntmps30
  go_wp2
  go_loopw [10] (fun i wr=>∃ k:Nat,k≤n∧i=.int .i64 k∧Hid (k_n cs n k)∧Below w.heap.size w wr) (fun i _=>n - (intOf i).toNat)
  case atStart=>exact ⟨0,by omega,rfl,(show k_n cs n 0 from fun q i hq=>by omega),Below.refl _ _⟩
  case round =>
   obtain ⟨k,hk,rfl,hf,hb⟩:=hrel;obtain ⟨wo,hwo⟩:∃ wo:World,wo=wr:=⟨_,rfl⟩;subst hwo
   by_cases hlt:k < n
   ·obtain ⟨b,o,x0,x1,x2,x3,rfl,hx,g0,g1,g2,g3⟩:=l_W (e_J hb S) hlt;have ⟨HX,HB⟩:=hh2 hx hb;have GG:=hid ((G.B hb).A (Obj.cells #[.int .i64 x0,.int .i64 x1,.int .i64 x2,.int .i64 x3] 66));have HB2:=N163;have i1:(0:Int)≤k:=by omega
    have i2:(k:Int) < n:=by omega
    clear hx hb;obtain ⟨mb,hmb⟩:=mn (c_Q (x0,x1,x2,x3) n);have HM:=hid hmb;clear hmb
    go_wp2_with fail
    have h0:=s_T (x0,x1,x2,x3) n _ GG.out;exact J58
   ·obtain rfl:k=n:=by omega
    have HB:=hid hb;clear hb
    go_wp2
    go_ret
    exact a_i (i_g Hn.out h6 hf.out) HB.out
 ·have i6:(1000:Int) < n:=by omega
  have HS:=hid (h_r (c:=cs) (by rw [Hn.out];exact h6));clear h6
  go_enter Tryz.func30,Tryz.ntmps30
  go_wp2
  go_ret
  exact a_i HS.out (Below.refl _ _)
theorem a_F (i:Ins) (k:Nat) (w:World) (hk:k < 3):Calls Tryz.prog 70 #[t_s i,.int .i64 k] w fun e w'=>e=.returned (.int .i64 (e_f i k))∧Below w.heap.size w w':=by
 obtain ⟨op,a,b,c⟩:=i
 rcases (show k=0∨k=1∨k=2 by omega) with rfl | rfl | rfl
 all_goals
  unfold t_s
  go_enter Tryz.func70,Tryz.ntmps70
  go_wp2
  go_ret
  exact ⟨rfl,by go_grown⟩
theorem n_e (k:Int) (w:World) (hk:¬ (0≤k∧k < 27)):Calls Tryz.prog 68 #[.int .i64 k] w fun e w'=>e=.returned (.string (str []))∧Below w.heap.size w w':=by
 go_enter Tryz.func68,Tryz.ntmps68
 go_wp2
 all_goals first
  | (exfalso;omega)
  | (go_ret;exact ⟨rfl,by go_grown⟩)
end Go.Proofs.YtolabfafgbmdbaaGreatDoor
namespace Go.Proofs.YtolabfafgbmdbaaGreatDoor
def okB (ws ts:List Int) (k:Nat):Bool:=decide (0≤ts.getD k 0∧ts.getD k 0≤2∧(ts.getD k 0=0→ws.getD k 0=0))
def f_n (ws ts:List Int) (k:Nat):Prop:=∀ i,i < k→okB ws ts i=true
def k_M (ws ts:List Int) (n:Nat):Bool:=(List.range n).all (okB ws ts)
theorem goodB_iff {ws ts:List Int} {n:Nat}:k_M ws ts n=true ↔ f_n ws ts n:=by
 simp [k_M,f_n]
theorem o_m {ws ts:List Int} {k:Nat} (h:f_n ws ts k) (h1:okB ws ts k=true):f_n ws ts (k+1):=by
 exact J105
theorem q_K {ws ts:List Int} {k n:Nat} (hk:k < n) (h1:okB ws ts k=false):k_M ws ts n=false:=by
 cases h:k_M ws ts n with
 | false=>rfl
 | true=>have:=goodB_iff.1 h k hk;simp [h1] at this
def l_m (n n':Nat):Bool:=decide (1≤n∧n≤160∧n'=n)
def d_g (ws ts:List Int):Bool:=l_m ws.length ts.length&&k_M ws ts ws.length
theorem c_w {ws ts:List Int} (h:d_g ws ts=true):1≤ws.length∧ws.length≤160∧ts.length=ws.length:=by
 simp only [d_g,l_m,Bool.and_eq_true,decide_eq_true_eq] at h;exact h.1
theorem h_g {ws ts:List Int} (h:d_g ws ts=true):f_n ws ts ws.length:=by
 simp only [d_g,Bool.and_eq_true] at h;exact goodB_iff.1 h.2
theorem g_N {ws ts:List Int} (h:d_g ws ts=true) (i:Nat) (hi:i < ws.length):0≤ts.getD i 0∧ts.getD i 0≤2:=by
 have:=h_g h i hi;simp only [okB,decide_eq_true_eq] at this;exact ⟨this.1,this.2.1⟩
def cnt (ts:List Int) (t:Int):Nat:=(ts.filter (·==t)).length
theorem i_F {ts:List Int} {k:Nat} (t:Int) (hk:k < ts.length):cnt (ts.take (k+1)) t=cnt (ts.take k) t+if ts.getD k 0=t then 1 else 0:=by
 have e:ts.take (k+1)=ts.take k++[ts.getD k 0]:=by
  rw [List.take_succ_eq_append_getElem hk];simp [hk]
 rw [e];simp only [cnt,List.filter_append,List.length_append]
 by_cases h:ts.getD k 0=t
 ·rw [if_pos h,List.filter_cons,if_pos (by simpa using h)];simp
 ·rw [if_neg h,List.filter_cons,if_neg (by simpa using h)];simp
def r_B (t:Int):Int:=if t=0 then 4 else if t=1 then 0 else 5
def r_z (t:Int):Int:=if t=1 then 6 else 0
def a_I (ws ts:List Int) (i:Int):Int:=if d_g ws ts=true then (if 0≤i∧i < ws.length then r_B (ts.getD i.toNat 0) else 3) else 1
def b_M (ws ts:List Int) (i:Int):Int:=if a_I ws ts i=0 then ws.getD i.toNat 0 else 0
def c_u (ws ts:List Int) (i v:Int):List Int:=if a_I ws ts i=0 then ws.set i.toNat v else []
def c_t (ws ts:List Int) (i:Int):List Int:=if a_I ws ts i=0 then ts else []
theorem d_Y {ws ts:List Int} {i:Int} (h:a_I ws ts i=0):d_g ws ts=true∧0≤i∧i < ws.length∧ts.getD i.toNat 0=1:=by
 unfold a_I at h
 split at h
 ·rename_i hm
  split at h
  ·rename_i hi
   refine ⟨hm,hi.1,hi.2,?_⟩;unfold r_B at h
   split at h
   ·simp at h
   ·split at h
    ·assumption
    ·simp at h
  ·simp at h
 ·simp at h
def k_k (ts:List Int) (i:Nat) (t:Int):Nat→List Int
 | 0=>ts
 | k+1=>(k_k ts i t k).set (i+k) t
theorem d_o (ts:List Int) (i:Nat) (t:Int) (k:Nat):(k_k ts i t k).length=ts.length:=by
 induction k with
 | zero=>rfl
 | succ k ih=>simp [k_k,ih]
theorem r_r (ts:List Int) (i:Nat) (t:Int) (k j:Nat) (hj:j < ts.length):(k_k ts i t k).getD j 0=if i≤j∧j < i+k then t else ts.getD j 0:=by
 induction k with
 | zero=>rw [if_neg (by omega)];rfl
 | succ k ih =>
  have hl:=d_o ts i t k;simp only [k_k,List.getD_eq_getElem?_getD,List.getElem?_set] at ih ⊢
  by_cases e:i+k=j
  ·rw [if_pos e,if_pos (by omega),if_pos (by omega)];simp
  ·rw [if_neg e,ih]
   by_cases e2:i≤j∧j < i+k
   ·rw [if_pos e2,if_pos (by omega)]
   ·rw [if_neg e2,if_neg (by omega)]
def f_l (f:Int→Int) (ts:List Int) (i:Nat):Nat→Int
 | 0=>0
 | k+1=>if f_l f ts i k=0 then f (ts.getD (i+k) 0) else f_l f ts i k
theorem h_u {f:Int→Int} {ts:List Int} {i:Nat} {k:Nat} {x:Int} (h:f_l f ts i k=0) (hx:f (ts.getD (i+k) 0)=x) (hn:x≠0):∀ {n:Nat},k < n→f_l f ts i n=x
 | 0,hk=>by omega
 | n+1,hk=>by
  simp only [f_l]
  by_cases e:n=k
  ·subst e;rw [if_pos h,hx]
  ·rw [h_u h hx hn (n:=n) (by omega),if_neg hn]
def b_7 (n:Nat) (i k:Int):Bool:=decide (1≤k∧0≤i∧k≤n - i)
def j_e (tag:Int):Int→Int:=if tag=1 then r_z else r_B
def c_G (ws ts:List Int) (i k tag:Int):Int:=
 if d_g ws ts=true∧(tag=1∨tag=2) then (if b_7 ws.length i k=true then f_l (j_e tag) ts i.toNat k.toNat else 3) else 1
def c_6 (ws ts:List Int) (i k tag:Int):List Int:=if c_G ws ts i k tag=0 then ws else []
def c_P (ws ts:List Int) (i k tag:Int):List Int:=if c_G ws ts i k tag=0 then k_k ts i.toNat tag k.toNat else []
end Go.Proofs.YtolabfafgbmdbaaGreatDoor
