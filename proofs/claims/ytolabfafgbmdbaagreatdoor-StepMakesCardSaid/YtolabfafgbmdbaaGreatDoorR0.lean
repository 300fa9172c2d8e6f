import Derived.Below
import Derived.BigQuiet
import Derived.BigRegion
import Derived.Carry
import Derived.ChangeKeysEq
import Derived.Deep.AppendLies
import Derived.Deep.CutBlock
import Derived.Deep.DeepCutAuto
import Derived.Deep.DeepHandedRow
import Derived.Deep.DrawnRows
import Derived.Deep.MidRow
import Derived.Deep.QuietTactic
import Derived.Deep.RegionHeld3
import Derived.Deep.RegionLaw
import Derived.Deep.RegionLawGrows
import Derived.Deep.RegionWith
import Derived.Deep.SlicePairs
import Derived.Deep.Slices
import Derived.Deep.Strs
import Derived.Defers
import Derived.Handy
import Derived.IntWalk
import Derived.LaidMore
import Derived.Laws.AppendOwnNone
import Derived.Laws.CopyOwn
import Derived.Laws.Cover3
import Derived.Laws.IdiomCopy
import Derived.Laws.Rows
import Derived.Lay
import Derived.Lib.AppendIntMem
import Derived.Lib.AtoiAll
import Derived.Lib.AtoiAllCases
import Derived.Lib.AtoiErrMem
import Derived.Lib.Hide
import Derived.Lib.IndexBytes
import Derived.Lib.IndexLaws
import Derived.Lib.ItoaLen
import Derived.Lib.ItoaNum
import Derived.Lib.SmallJoins
import Derived.Lib.Split
import Derived.Lib.Zigzag
import Derived.LoopIn
import Derived.LoopNIn
import Derived.Maps.AppendAt
import Derived.Maps.OwnIn
import Derived.Maps.OwnSet
import Derived.Maps.Views
import Derived.OpenShut
import Derived.OwnWalkIn
import Derived.ProofKit
import Derived.RangeFuncBound
import Derived.RangeFuncBox
import Derived.RangeFuncCalls
import Derived.RangeFuncLeaves
import Derived.RangeFuncNested
import Derived.Recover
import Derived.RegionTactic
import Derived.SevenTiedAt
import Derived.Shelf.Abstract
import Derived.Shelf.RegionOpen
import Derived.StillTailTactics
import Derived.Stop.LaidErr
import Derived.TacticsInMore
import Derived.WalkKit
import Derived.WalkSmall
import Derived.WalkSpells
import Derived.Test.YtolabfafgbmdbaaGreatDoorProg
namespace Go.Proofs.YtolabfafgbmdbaaGreatDoor
open Go.ChangeShapes Go.WideShapes Go.ChangeAt Go.RowKit
theorem nm {α:Sort _} (x:α):∃ y,y=x:=⟨x,rfl⟩
theorem mn {α:Sort _} (x:α):∃ y,x=y:=⟨x,rfl⟩
theorem hh2 {p0 p1:Prop} (h0:p0) (h1:p1):Go.RowKit.Hid p0∧Go.RowKit.Hid p1:=⟨h0,h1⟩
theorem hh3 {p0 p1 p2:Prop} (h0:p0) (h1:p1) (h2:p2):Go.RowKit.Hid p0∧Go.RowKit.Hid p1∧Go.RowKit.Hid p2:=⟨h0,h1,h2⟩
theorem hh4 {p0 p1 p2 p3:Prop} (h0:p0) (h1:p1) (h2:p2) (h3:p3):Go.RowKit.Hid p0∧Go.RowKit.Hid p1∧Go.RowKit.Hid p2∧Go.RowKit.Hid p3:=⟨h0,h1,h2,h3⟩
theorem hh5 {p0 p1 p2 p3 p4:Prop} (h0:p0) (h1:p1) (h2:p2) (h3:p3) (h4:p4):Go.RowKit.Hid p0∧Go.RowKit.Hid p1∧Go.RowKit.Hid p2∧Go.RowKit.Hid p3∧Go.RowKit.Hid p4:=⟨h0,h1,h2,h3,h4⟩
theorem hh6 {p0 p1 p2 p3 p4 p5:Prop} (h0:p0) (h1:p1) (h2:p2) (h3:p3) (h4:p4) (h5:p5):Go.RowKit.Hid p0∧Go.RowKit.Hid p1∧Go.RowKit.Hid p2∧Go.RowKit.Hid p3∧Go.RowKit.Hid p4∧Go.RowKit.Hid p5:=⟨h0,h1,h2,h3,h4,h5⟩
theorem hh7 {p0 p1 p2 p3 p4 p5 p6:Prop} (h0:p0) (h1:p1) (h2:p2) (h3:p3) (h4:p4) (h5:p5) (h6:p6):Go.RowKit.Hid p0∧Go.RowKit.Hid p1∧Go.RowKit.Hid p2∧Go.RowKit.Hid p3∧Go.RowKit.Hid p4∧Go.RowKit.Hid p5∧Go.RowKit.Hid p6:=⟨h0,h1,h2,h3,h4,h5,h6⟩
theorem hh8 {p0 p1 p2 p3 p4 p5 p6 p7:Prop} (h0:p0) (h1:p1) (h2:p2) (h3:p3) (h4:p4) (h5:p5) (h6:p6) (h7:p7):Go.RowKit.Hid p0∧Go.RowKit.Hid p1∧Go.RowKit.Hid p2∧Go.RowKit.Hid p3∧Go.RowKit.Hid p4∧Go.RowKit.Hid p5∧Go.RowKit.Hid p6∧Go.RowKit.Hid p7:=⟨h0,h1,h2,h3,h4,h5,h6,h7⟩
theorem hh9 {p0 p1 p2 p3 p4 p5 p6 p7 p8:Prop} (h0:p0) (h1:p1) (h2:p2) (h3:p3) (h4:p4) (h5:p5) (h6:p6) (h7:p7) (h8:p8):Go.RowKit.Hid p0∧Go.RowKit.Hid p1∧Go.RowKit.Hid p2∧Go.RowKit.Hid p3∧Go.RowKit.Hid p4∧Go.RowKit.Hid p5∧Go.RowKit.Hid p6∧Go.RowKit.Hid p7∧Go.RowKit.Hid p8:=⟨h0,h1,h2,h3,h4,h5,h6,h7,h8⟩
theorem hh10 {p0 p1 p2 p3 p4 p5 p6 p7 p8 p9:Prop} (h0:p0) (h1:p1) (h2:p2) (h3:p3) (h4:p4) (h5:p5) (h6:p6) (h7:p7) (h8:p8) (h9:p9):Go.RowKit.Hid p0∧Go.RowKit.Hid p1∧Go.RowKit.Hid p2∧Go.RowKit.Hid p3∧Go.RowKit.Hid p4∧Go.RowKit.Hid p5∧Go.RowKit.Hid p6∧Go.RowKit.Hid p7∧Go.RowKit.Hid p8∧Go.RowKit.Hid p9:=⟨h0,h1,h2,h3,h4,h5,h6,h7,h8,h9⟩
theorem hh11 {p0 p1 p2 p3 p4 p5 p6 p7 p8 p9 p10:Prop} (h0:p0) (h1:p1) (h2:p2) (h3:p3) (h4:p4) (h5:p5) (h6:p6) (h7:p7) (h8:p8) (h9:p9) (h10:p10):Go.RowKit.Hid p0∧Go.RowKit.Hid p1∧Go.RowKit.Hid p2∧Go.RowKit.Hid p3∧Go.RowKit.Hid p4∧Go.RowKit.Hid p5∧Go.RowKit.Hid p6∧Go.RowKit.Hid p7∧Go.RowKit.Hid p8∧Go.RowKit.Hid p9∧Go.RowKit.Hid p10:=⟨h0,h1,h2,h3,h4,h5,h6,h7,h8,h9,h10⟩
theorem hh12 {p0 p1 p2 p3 p4 p5 p6 p7 p8 p9 p10 p11:Prop} (h0:p0) (h1:p1) (h2:p2) (h3:p3) (h4:p4) (h5:p5) (h6:p6) (h7:p7) (h8:p8) (h9:p9) (h10:p10) (h11:p11):Go.RowKit.Hid p0∧Go.RowKit.Hid p1∧Go.RowKit.Hid p2∧Go.RowKit.Hid p3∧Go.RowKit.Hid p4∧Go.RowKit.Hid p5∧Go.RowKit.Hid p6∧Go.RowKit.Hid p7∧Go.RowKit.Hid p8∧Go.RowKit.Hid p9∧Go.RowKit.Hid p10∧Go.RowKit.Hid p11:=⟨h0,h1,h2,h3,h4,h5,h6,h7,h8,h9,h10,h11⟩
theorem hh13 {p0 p1 p2 p3 p4 p5 p6 p7 p8 p9 p10 p11 p12:Prop} (h0:p0) (h1:p1) (h2:p2) (h3:p3) (h4:p4) (h5:p5) (h6:p6) (h7:p7) (h8:p8) (h9:p9) (h10:p10) (h11:p11) (h12:p12):Go.RowKit.Hid p0∧Go.RowKit.Hid p1∧Go.RowKit.Hid p2∧Go.RowKit.Hid p3∧Go.RowKit.Hid p4∧Go.RowKit.Hid p5∧Go.RowKit.Hid p6∧Go.RowKit.Hid p7∧Go.RowKit.Hid p8∧Go.RowKit.Hid p9∧Go.RowKit.Hid p10∧Go.RowKit.Hid p11∧Go.RowKit.Hid p12:=⟨h0,h1,h2,h3,h4,h5,h6,h7,h8,h9,h10,h11,h12⟩
theorem hh14 {p0 p1 p2 p3 p4 p5 p6 p7 p8 p9 p10 p11 p12 p13:Prop} (h0:p0) (h1:p1) (h2:p2) (h3:p3) (h4:p4) (h5:p5) (h6:p6) (h7:p7) (h8:p8) (h9:p9) (h10:p10) (h11:p11) (h12:p12) (h13:p13):Go.RowKit.Hid p0∧Go.RowKit.Hid p1∧Go.RowKit.Hid p2∧Go.RowKit.Hid p3∧Go.RowKit.Hid p4∧Go.RowKit.Hid p5∧Go.RowKit.Hid p6∧Go.RowKit.Hid p7∧Go.RowKit.Hid p8∧Go.RowKit.Hid p9∧Go.RowKit.Hid p10∧Go.RowKit.Hid p11∧Go.RowKit.Hid p12∧Go.RowKit.Hid p13:=⟨h0,h1,h2,h3,h4,h5,h6,h7,h8,h9,h10,h11,h12,h13⟩
theorem hh15 {p0 p1 p2 p3 p4 p5 p6 p7 p8 p9 p10 p11 p12 p13 p14:Prop} (h0:p0) (h1:p1) (h2:p2) (h3:p3) (h4:p4) (h5:p5) (h6:p6) (h7:p7) (h8:p8) (h9:p9) (h10:p10) (h11:p11) (h12:p12) (h13:p13) (h14:p14):Go.RowKit.Hid p0∧Go.RowKit.Hid p1∧Go.RowKit.Hid p2∧Go.RowKit.Hid p3∧Go.RowKit.Hid p4∧Go.RowKit.Hid p5∧Go.RowKit.Hid p6∧Go.RowKit.Hid p7∧Go.RowKit.Hid p8∧Go.RowKit.Hid p9∧Go.RowKit.Hid p10∧Go.RowKit.Hid p11∧Go.RowKit.Hid p12∧Go.RowKit.Hid p13∧Go.RowKit.Hid p14:=⟨h0,h1,h2,h3,h4,h5,h6,h7,h8,h9,h10,h11,h12,h13,h14⟩
theorem hh16 {p0 p1 p2 p3 p4 p5 p6 p7 p8 p9 p10 p11 p12 p13 p14 p15:Prop} (h0:p0) (h1:p1) (h2:p2) (h3:p3) (h4:p4) (h5:p5) (h6:p6) (h7:p7) (h8:p8) (h9:p9) (h10:p10) (h11:p11) (h12:p12) (h13:p13) (h14:p14) (h15:p15):Go.RowKit.Hid p0∧Go.RowKit.Hid p1∧Go.RowKit.Hid p2∧Go.RowKit.Hid p3∧Go.RowKit.Hid p4∧Go.RowKit.Hid p5∧Go.RowKit.Hid p6∧Go.RowKit.Hid p7∧Go.RowKit.Hid p8∧Go.RowKit.Hid p9∧Go.RowKit.Hid p10∧Go.RowKit.Hid p11∧Go.RowKit.Hid p12∧Go.RowKit.Hid p13∧Go.RowKit.Hid p14∧Go.RowKit.Hid p15:=⟨h0,h1,h2,h3,h4,h5,h6,h7,h8,h9,h10,h11,h12,h13,h14,h15⟩
theorem sA {α:Type _} (l:List α) (i:Nat) (a:α):l.toArray.setIfInBounds i a=(l.set i a).toArray:=List.setIfInBounds_toArray l i a
theorem sB {α:Type _} (a b:α) (l:List α):(a::l).set 0 b=b::l:=rfl
theorem sC {α:Type _} (a b:α) (n:Nat) (l:List α):(a::l).set (n+1) b=a::l.set n b:=rfl
theorem J0 {p:Prop} (h:p:=by
  go_upto_region 1 with fail
  rw [←HW.out];have k9:=(HX.out 9 _ rfl).1
  go_wp2_with fail
  refine (d_5 fa fn fc t.fs _ S1 C1 h1).mono ?_;rintro e w1 ⟨fa2,fc2,rfl,d1,d2,d3,hb1⟩;rw [HZ.out] at d2 d3;have hz1:=hb1.size;rw [HZ.out] at hz1;have X1:=a_f hb1 HX.out;have R1:=a_f hb1 HR.out;have B1:=a_b HB.out hb1;have S2':=a_w (a_G hb1) S2;obtain ⟨Z,hZ⟩:∃ Z,Z=w1.setCell ⟨w.heap.size,9,none⟩ (.slice fa2 t.fs.length fc2):=⟨_,rfl⟩;have X2:a_p Z w.heap.size (thC t fa2 t.fs.length fc2 la ln lc):=by rw [hZ];exact a_N X1 9 (by simp) _
  have R2:a_p Z (w.heap.size+1) thN:=by rw [hZ];exact a_D R1 (by omega) _
  have B2:Below w.heap.size w Z:=by rw [hZ];exact B1.setCell (p:=⟨w.heap.size,9,none⟩) (Nat.le_refl _) _
  have O2:Z.ownsRow (w.heap.size+2) 105 5 (.slice fa2 t.fs.length fc2) t.fs.length (t.fs.flatMap e_J):=by
   rw [hZ];exact e_d d2 _ (c_G d2 (.inr (by show w.heap.size < _;omega))) _
  have V2:Vs repFr (fun b=>w.heap.size+2≤b) Z fa2 t.fs.length t.fs:=by rw [hZ];exact a_w (b_e _ _ _ (fun b hb=>by show b≠w.heap.size;omega)) d3
  have S3:Vs repInt Any Z la ln t.lf:=by rw [hZ];exact f_6 (a_w (b_e _ _ _ (fun b hb=>by show b≠w.heap.size;omega)) S2')
  have hz2:Z.heap.size=w1.heap.size:=by rw [hZ];simp [World.setCell]
  obtain ⟨y9,g9⟩:=X1 9 _ rfl;have HX2:=hid X2;have HR2:=hid R2;have HB2:=hid B2;have HO2:=hid O2;have HV2:=hid V2;have HD1:=hid d1;have HZ1:=hid hZ;have HZ2:=hid hz2;clear d1 d2 d3 hb1 X1 R1 B1 S2 S2' hZ X2 R2 B2 O2 V2 k9 hz2 S1
  go_upto_region 2 with fail
  rw [←HZ1.out];clear y9 g9;have k12:=(HX2.out 12 _ rfl).1
  go_wp2_with fail
  refine (d_6 la ln lc t.lf _ S3 C2 h2).mono ?_;rintro e w2 ⟨la2,lc2,rfl,d1,d2,d3,hb1⟩;have hz3:=hb1.size;have X1:=a_f hb1 HX2.out;have R1:=a_f hb1 HR2.out;have B1:=a_b HB2.out hb1;have O1:=a_K HO2.out hb1;have V1:=e_h hb1 HV2.out;obtain ⟨Y,hY⟩:∃ Z,Z=w2.setCell ⟨w.heap.size,12,none⟩ (.slice la2 t.lf.length lc2):=⟨_,rfl⟩;have X2:a_p Y w.heap.size (thC t fa2 t.fs.length fc2 la2 t.lf.length lc2):=by rw [hY];exact a_N X1 12 (by simp) _
  have R2:a_p Y (w.heap.size+1) thN:=by rw [hY];exact a_D R1 (by omega) _
  have B2:Below w.heap.size w Y:=by rw [hY];exact B1.setCell (p:=⟨w.heap.size,12,none⟩) (Nat.le_refl _) _
  have O2:Y.ownsRow (w.heap.size+2) 105 5 (.slice fa2 t.fs.length fc2) t.fs.length (t.fs.flatMap e_J):=by
   rw [hY];exact e_d O1 _ (c_G O1 (.inr (by show w.heap.size < _;omega))) _
  have V2:Vs repFr (fun b=>w.heap.size+2≤b) Y fa2 t.fs.length t.fs:=by rw [hY];exact a_w (b_e _ _ _ (fun b hb=>by show b≠w.heap.size;omega)) V1
  have L2:Vs repInt (fun b=>w.heap.size+2≤b∧(Value.slice fa2 t.fs.length fc2).ownBlock≠some b) Y la2 t.lf.length t.lf:=by
   rw [hY];exact a_w (b_e _ _ _ (fun b hb=>by show b≠w.heap.size;omega)) (a_P (fun b hb=>⟨by have:=HZ2.out;omega,fun e=>by have:=a_R HO2.out e;omega⟩) d3)
  obtain ⟨Y2,hY2⟩:∃ Z,Z=c_Q Y (w.heap.size+1) 0 (thC t fa2 t.fs.length fc2 la2 t.lf.length lc2):=⟨_,rfl⟩;have R3:a_p Y2 (w.heap.size+1) (thC t fa2 t.fs.length fc2 la2 t.lf.length lc2):=by rw [hY2];exact a_r R2 rfl
  have B3:Below w.heap.size w Y2:=by rw [hY2];exact a_m (by omega) B2
  have O3:Y2.ownsRow w.heap.size 105 5 (.slice fa2 t.fs.length fc2) t.fs.length (t.fs.flatMap e_J):=by
   rw [hY2];exact o_G (a_F (c_G (p:=⟨w.heap.size+1,0,none⟩) O2 (.inr (by show w.heap.size+1 < _;omega))) O2) (by omega)
  have V3:Vs repFr (fun b=>w.heap.size≤b) Y2 fa2 t.fs.length t.fs:=by rw [hY2];exact a_P (fun b hb=>by omega) (a_w (a_E (fun b hb=>by omega)) V2)
  have L3:Vs repInt (fun b=>w.heap.size≤b∧(Value.slice fa2 t.fs.length fc2).ownBlock≠some b) Y2 la2 t.lf.length t.lf:=by rw [hY2];exact a_P (fun b hb=>⟨by omega,hb.2⟩) (a_w (a_E (fun b hb=>by omega)) L2)
  obtain ⟨y12,g12⟩:=X1 12 _ rfl;have HX3:=hid X2;have HR3:=hid R2;have HY:=hid hY;have HFIN:=hid (And.intro R3 (And.intro d1 (And.intro B3 (And.intro O3 (And.intro V3 L3)))));have HY2:=hid hY2;clear d1 d2 d3 hb1 X1 R1 B1 O1 V1 hY X2 R2 B2 O2 V2 L2 hY2 R3 B3 O3 V3 L3 k12 S3 C1 C2
  go_upto_region 3 with fail
  rw [←HY.out];clear y12 g12;have k0:=(HX3.out 0 _ rfl).1;have k1:=(HX3.out 1 _ rfl).1;have k2:=(HX3.out 2 _ rfl).1;have k3:=(HX3.out 3 _ rfl).1;have k4:=(HX3.out 4 _ rfl).1;have k5:=(HX3.out 5 _ rfl).1;have k6:=(HX3.out 6 _ rfl).1;have k7:=(HX3.out 7 _ rfl).1;have k8:=(HX3.out 8 _ rfl).1;have k9:=(HX3.out 9 _ rfl).1;have k10:=(HX3.out 10 _ rfl).1;have k11:=(HX3.out 11 _ rfl).1;have k12:=(HX3.out 12 _ rfl).1;obtain ⟨y0,g0⟩:=HR3.out 0 _ rfl;obtain ⟨y1,g1⟩:=HR3.out 1 _ rfl;obtain ⟨y2,g2⟩:=HR3.out 2 _ rfl;obtain ⟨y3,g3⟩:=HR3.out 3 _ rfl;obtain ⟨y4,g4⟩:=HR3.out 4 _ rfl;obtain ⟨y5,g5⟩:=HR3.out 5 _ rfl;obtain ⟨y6,g6⟩:=HR3.out 6 _ rfl;obtain ⟨y7,g7⟩:=HR3.out 7 _ rfl;obtain ⟨y8,g8⟩:=HR3.out 8 _ rfl;obtain ⟨y9,g9⟩:=HR3.out 9 _ rfl;obtain ⟨y10,g10⟩:=HR3.out 10 _ rfl;obtain ⟨y11,g11⟩:=HR3.out 11 _ rfl;obtain ⟨y12,g12⟩:=HR3.out 12 _ rfl
  go_wp2
  have hf:=HFIN.out;rw [HY2.out] at hf;refine b_0 ⟨w.heap.size+1,0,none⟩ rfl rfl rfl (a_8 _ _ _ _ _ _ _ _ _ hf.1) ?_;exact ⟨_,_,_,_,rfl,HD1.out,hf.2.2.2.1,hf.2.2.2.2.1,hf.2.1,hf.2.2.2.2.2,hf.2.2.1⟩
 ):p:=h
theorem J1 {p:Prop} (h:p:=by
  obtain rfl:Y=zWo:=by rw [←HY.out,d_8,if_neg (by rw [HE.out];decide)]
  have HRE:=hid (b_D (b_O HBZ5.out HRV.out));have HC:=hid (c_l L n_c zWo w5 HRE.out c_u (by have:=HRE.out.th.1;rw [←this];decide) (fun t h=>by cases h) (by decide) (by decide) (by decide) (by decide) (by have:=HRE.out.ev.1;rw [←this];decide));obtain ⟨y0,-⟩:=a_f HBZ5.out HX.out 0 _ rfl;obtain ⟨y1,-⟩:=a_f HBZ5.out HX.out 1 _ rfl;obtain ⟨y2,-⟩:=a_f HBZ5.out HX.out 2 _ rfl;obtain ⟨y3,-⟩:=a_f HBZ5.out HX.out 3 _ rfl;obtain ⟨y4,-⟩:=a_f HBZ5.out HX.out 4 _ rfl;obtain ⟨y5,-⟩:=a_f HBZ5.out HX.out 5 _ rfl;obtain ⟨y6,-⟩:=a_f HBZ5.out HX.out 6 _ rfl
  go_wp2_with fail
  refine HC.out.mono ?_;clear HC y0 y1 y2 y3 y4 y5 y6;rintro e9 w9 ⟨rfl,hb9⟩;have HBW9:=hid (a_b HBW5.out hb9);clear hb9
  go_wp2_with fail
  go_ret
  exact ⟨rfl,HBW9.out⟩
 ):p:=h
theorem J2 {p:Prop} (h:p:=by
  refine InvV.cons rfl rfl rfl rfl (fun a1 vals w1 C K hK=>?_) ?_
  ·have e0:a1.tmps[10]?.getD undef=.tuple #[.agg zs.toArray,.int .i64 0]:=c_R C 6 10 rfl rfl rfl rfl;refine a_d rfl (a_o (v:=.agg zs.toArray) ?_ (a_v hK C rfl rfl));simp [execOp,go_sem,e0]
  refine InvV.cons rfl rfl rfl rfl (fun a1 vals w1 C K hK=>?_) ?_
  ·have e0:a1.tmps[10]?.getD undef=.tuple #[.agg zs.toArray,.int .i64 0]:=c_R C 6 10 rfl rfl rfl rfl;refine a_d rfl (a_o (v:=.int .i64 0) ?_ (a_v hK C rfl rfl));simp [execOp,go_sem,e0]
  refine InvV.cons rfl rfl rfl rfl (fun a1 vals w1 C K hK=>?_) ?_
  ·have e0:a1.eval (.tmp 11)=.agg zs.toArray:=got C 7 11 rfl rfl rfl rfl;obtain ⟨xs,hx,hn⟩:=C.base.2.2;refine a_d rfl (a_I 46 _ _ rfl (w.heap.size+1) zs.toArray (C.old _ rfl) e0 xs hx (by rw [List.size_toArray,HZN.out,hn]) HZI.out (by rw [HZA.out];exact a_V _ _ _ _ _ _ _) ?_);intro U HU;exact c_w hK (b_V HU hx hn HZN.out) (d_j HU C.base hx hn HZN.out)
  refine InvV.cons rfl rfl rfl rfl (fun a1 vals w1 C K hK=>?_) ?_
  ·have e0:a1.tmps[12]?.getD undef=.int .i64 0:=c_R C 8 12 rfl rfl rfl rfl;refine a_d rfl (a_o (v:=.int .i64 0) ?_ (a_v hK C rfl rfl));simp [execOp,go_sem,e0]
  exact StepsL.nil
 ):p:=h
theorem J3 {p:Prop} (h:p:=by
  exact a_d rfl (wp_load_mid 168 _ rfl w.heap.size 0 (C.old _ rfl) cs _ (a_l C.base.2.1) Tryz.underlying168 rfl HCI.out (a_v hK C rfl rfl))
 ):p:=h
theorem J4 {p:Prop} (h:p:=by
  obtain ⟨y1,-⟩:=HIV.out 1 _ rfl;obtain ⟨y2,-⟩:=HIV.out 2 _ rfl;obtain ⟨y3,-⟩:=HIV.out 3 _ rfl
  go_wp2_with fail
  refine HC.out.mono ?_;clear HC y0 y1 y2 y3;rintro e2 V2 ⟨(⟨hz,rfl,Q2,L2,hh⟩ | ⟨hz,rfl,Q2,L2,hh⟩),hb2⟩
  ·have HZE:=hid hz;have HH2:=hid hh;have HB2:=hid (HBN.out.trans hb2);clear hz hh hb2;obtain ⟨fa2,fc2,la2,lc2,-,ht2⟩:=b_6 HH2.out;obtain ⟨p0,pf⟩:=ht2 0 _ rfl;have p0:V2.cell? ⟨b,k*13,none⟩=some (.int .i64 (thW Z k).pc):=p0;have pf:V2.frozen? ⟨b,k*13,none⟩=false:=pf;obtain ⟨pc,hpc2⟩:∃ p,(thW Z k).pc=p:=⟨_,rfl⟩;rw [hpc2] at p0;have hwk:wrap64 (pc+1)=pc+1:=IntWalk.wrap64_in _ (by rw [←hpc2,HZT.out,HZP.out];have:=HPC.out;omega)
   have HHE:=hid (show Wk Q2 (V2.setCell ⟨b,k*13,none⟩ (.int .i64 (pc+1))) g b L2 (b_y Z k (b_s (thW Z k))) k from
    b_K HH2.out 0 (.int .i64 (pc+1)) (b_s (thW Z k)) (by decide) (fun fa fc la lc T=>⟨fa,fc,la,lc,by rw [←hpc2];rfl,⟨T.fcap,T.fs,T.lcap,T.lf⟩⟩))
   have HBE:=hid (show Bel Sx w (V2.setCell ⟨b,k*13,none⟩ (.int .i64 (pc+1))) from HB2.out.setCell (p:=⟨b,k*13,none⟩) HNN.out.2 _);clear ht2 hpc2
   go_wp2
   first | go_ret | go_end0
   refine ⟨.inl ⟨HZE.out,rfl,Q2,L2,?_⟩,HBE.out⟩;have HYE:=HHE;rw [←HY.out];exact HYE.out
  ·go_wp2
   exact And.intro rfl ⟨.inr ⟨hz,rfl,Q2,L2,hh⟩,HBN.out.trans hb2⟩
 ):p:=h
theorem J5 {p:Prop} (h:p:=by
  have HB1:=hid hb.1;clear hv hb HX HR HB HW;simp only [b_Y,Act.put,List.setIfInBounds_toArray,List.set_cons_zero,List.set_cons_succ,e3];clear e3
  go_wp2
  refine a_j ⟨w.heap.size+1,0,none⟩ rfl rfl rfl (a_8 _ _ z fa la fn fc ln lc (by have h:=HR1.out;rw [HZS.out] at h;exact h)) ?_;exact ⟨rfl,HB1.out⟩
 ):p:=h
theorem J6 {p:Prop} (h:p:=by
  obtain ⟨xs,hx,hn⟩:=C.base.2.2;refine a_d rfl (a_I 46 _ _ rfl (w.heap.size+1) zs.toArray (C.old _ rfl) e0 xs hx (by rw [List.size_toArray,HZN.out,hn]) HZI.out (by rw [HZA.out];exact a_V _ _ _ _ _ _ _) ?_);intro U HU;exact c_w hK (b_V HU hx hn HZN.out) (d_j HU C.base hx hn HZN.out)
 ):p:=h
theorem J7 {p:Prop} (h:p:=by
  have hf:kOk ((k:Int),a,b,c) m sg 2=false:=by rw [hv];simp [b_j];omega
  clear hv hoj;have HS:=hid (a_7 (i:=((k:Int),a,b,c)) (m:=m) (k:=2) (by omega) (by rw [HOP.out];exact (hf)));clear hok hstep
  go_wp2_with fail
  refine (a_t ((k:Int),a,b,c) 2 _ (by omega)).mono ?_;rintro e w1 ⟨rfl,hb1⟩;rw [show c_6 ((k:Int),a,b,c) 2=c from rfl];have HB2:=hid (a_b HB.out (a_b HBW.out hb1));clear hb1 HBW x0 x1 x2 x3
  go_wp2
  go_ret
  exact a_e HS.out HB2.out
 ):p:=h
theorem J8 {p:Prop} (h:p:=by
  have hf:kOk ((k:Int),a,b,c) m sg 1=false:=by rw [hv];simp [b_j];omega
  clear hv hoj;have HS:=hid (a_7 (i:=((k:Int),a,b,c)) (m:=m) (k:=1) (by omega) (by rw [HOP.out];exact (hf)));clear hok hstep
  go_wp2_with fail
  refine (a_t ((k:Int),a,b,c) 1 _ (by omega)).mono ?_;rintro e w1 ⟨rfl,hb1⟩;rw [show c_6 ((k:Int),a,b,c) 1=b from rfl];have HB2:=hid (a_b HB.out (a_b HBW.out hb1));clear hb1 HBW x0 x1 x2 x3
  go_wp2
  go_ret
  exact a_e HS.out HB2.out
 ):p:=h
theorem J9 {p:Prop} (h:p:=by
  have hf:kOk ((k:Int),a,b,c) m sg 0=false:=by rw [hv];simp [b_j];omega
  clear hv hoj;have HS:=hid (a_7 (i:=((k:Int),a,b,c)) (m:=m) (k:=0) (by omega) (by rw [HOP.out];exact (hf)));clear hok hstep
  go_wp2_with fail
  refine (a_t ((k:Int),a,b,c) 0 _ (by omega)).mono ?_;rintro e w1 ⟨rfl,hb1⟩;rw [show c_6 ((k:Int),a,b,c) 0=a from rfl];have HB2:=hid (a_b HB.out (a_b HBW.out hb1));clear hb1 HBW x0 x1 x2 x3
  go_wp2
  go_ret
  exact a_e HS.out HB2.out
 ):p:=h
theorem J10 {p:Prop} (h:p:=by
  have HHE:=hid (show Wk Q2 (V2.setCell ⟨b,k*13,none⟩ (.int .i64 (pc+1))) g b L2 (b_y Z k (b_s (thW Z k))) k from
   b_K HH2.out 0 (.int .i64 (pc+1)) (b_s (thW Z k)) (by decide) (fun fa fc la lc T=>⟨fa,fc,la,lc,by rw [←hpc2];rfl,⟨T.fcap,T.fs,T.lcap,T.lf⟩⟩))
  have HBE:=hid (show Bel Sx w (V2.setCell ⟨b,k*13,none⟩ (.int .i64 (pc+1))) from HB2.out.setCell (p:=⟨b,k*13,none⟩) HNN.out.2 _);clear ht2 hpc2
  go_wp2
  first | go_ret | go_end0
  refine ⟨.inl ⟨HZE.out,rfl,Q2,L2,?_⟩,HBE.out⟩;have HYE:=HHE;rw [←HY.out];exact HYE.out
 ):p:=h
theorem J11 {p:Prop} (h:p:=by
  have HB2:=hid (a_b HB.out (a_b HBW.out hb1));clear hb1 HBW x0 x1 x2 x3
  go_wp2
  go_ret
  exact a_e HS.out HB2.out
 ):p:=h
theorem J12 {p:Prop} (h:p:=by
  have e0:a1.eval (.tmp 5)=.agg cs.toArray:=got C 1 5 rfl rfl rfl rfl;have h0:=c_T t self i fa la fn fc ln lc w1 Hb.out;rw [←HCA.out] at h0;refine a_d rfl (a_x _ _ _ rfl 155 rfl [.agg cs.toArray] (by simp [e0]) (by kernel_rfl) (h0.mono ?_));rintro e w2 ⟨rfl,hb2⟩;exact ⟨_,rfl,b_J hK rfl rfl (b_l C.base hb2 HCN.out) (a_f hb2)⟩
 ):p:=h
theorem J13 {p:Prop} (h:p:=by
  clear t0;have HR1:=hid (show a_p (W.drewN m) w.heap.size (inC (0,0,0,0)) from HR.out);have HB1:=hid (show Below w.heap.size w (W.drewN m) from below_drewN HB.out m)
  by_cases hlt:pc < L.co.n
  ·have HD:=hid (show d=true by rw [←HDD.out];exact decide_eq_true (by have:=HL.out;omega));obtain ⟨p,hp⟩:∃ p:Nat,pc=p:=⟨pc.toNat,by omega⟩;subst hp;obtain ⟨b2,o2,y,ha,hy,-,hat⟩:=g_k HH.out.co (i:=p) (by omega)
   have e:y=i:=by
    rw [←HI.out,inW,Int.toNat_natCast,List.getD_eq_getElem?_getD,hy];rfl
   subst e;obtain ⟨c0,c1,c2,c3⟩:=l_W hat;have c0:W.cell? ⟨b2,o2+p*4,none⟩=some (.int .i64 y.1):=c0;have c1:W.cell? ⟨b2,o2+p*4+1,none⟩=some (.int .i64 y.2.1):=c1;have c2:W.cell? ⟨b2,o2+p*4+2,none⟩=some (.int .i64 y.2.2.1):=c2;have c3:W.cell? ⟨b2,o2+p*4+3,none⟩=some (.int .i64 y.2.2.2):=c3;rw [ha] at x0;have i1:(0:Int)≤p:=by omega
   clear hat ha hy
   go_wp2_with (refine a_h rfl 66 _ _ rfl w.heap.size (inC y).toArray rfl rfl _ HR1.out rfl (by kernel_rfl) (by simp [Value.oneCell']) ?_;intro U HU)
   refine a_j ⟨w.heap.size,0,none⟩ rfl rfl rfl (a_4 (show a_p U w.heap.size (inC y) by rw [HU.out];exact a_r HR1.out rfl) 66 Tryz.underlying66 rfl (by kernel_rfl)) ?_;rw [HD.out];exact ⟨rfl,by rw [HU.out];exact a_m (Nat.le_refl _) HB1.out⟩
  ·have HD:=hid (show d=false by rw [←HDD.out];exact decide_eq_false (by have:=HL.out;omega))
   have hz:i=(0,0,0,0):=by
    have:=HL.out;rw [←HI.out,inW,List.getD_eq_getElem?_getD,List.getElem?_eq_none (by omega)];rfl
   subst hz
   go_wp2_with (refine a_h rfl 66 _ _ rfl w.heap.size (inC (0,0,0,0)).toArray rfl rfl _ HR1.out rfl (by kernel_rfl) (by simp [Value.oneCell']) ?_;intro U HU)
   refine a_j ⟨w.heap.size,0,none⟩ rfl rfl rfl (a_4 (show a_p U w.heap.size (inC (0,0,0,0)) by rw [HU.out];exact a_r HR1.out rfl) 66 Tryz.underlying66 rfl (by kernel_rfl)) ?_;rw [HD.out];exact ⟨rfl,by rw [HU.out];exact a_m (Nat.le_refl _) HB1.out⟩
 ):p:=h
theorem J14 {p:Prop} (h:p:=by
  show p (if pi=k then v else vals pi) (if pj=k then v else vals pj) w2
  by_cases e1:pi=k
  ·by_cases e2:pj=k
   ·rw [if_pos e1,if_pos e2];exact h7 e1.symm e2.symm
   ·rw [if_pos e1,if_neg e2];exact h5 e1.symm (fun h=>e2 h.symm) (hv _ l2 (a_a u2 e2)).2
  ·by_cases e2:pj=k
   ·rw [if_neg e1,if_pos e2];exact h6 e2.symm (fun h=>e1 h.symm) (hv _ l1 (a_a u1 e1)).2
   ·rw [if_neg e1,if_neg e2];exact h4 (fun h=>e1 h.symm) (fun h=>e2 h.symm) (hp l1 l2 (a_a u1 e1) (a_a u2 e2))
 ):p:=h
theorem J15 {p:Prop} (h:p:=by
  rw [hrt] at h0;have HC:=hid h0;have HRT:=hid hrt;clear h0 hrt
  go_wp2_with (refine wpList_load_mid rfl 46 _ rfl wo.heap.size 0 rfl (thC t ta tn tc qa tm qc) _ (a_l HT2.out) Tryz.underlying46 rfl (by kernel_rfl) ?_)
  refine HC.out.mono ?_;clear HC;rintro e5 w5 ⟨rfl,hb5⟩;have HB5:=hid (a_b HB4.out hb5);have HB5w:=hid (a_b HB2.out HB5.out);obtain ⟨y12,-⟩:=a_f hb5 HT2.out 12 _ rfl;obtain ⟨x5,-⟩:=a_f hb5 HX4.out 5 _ rfl;rw [HNL.out] at x5;have hwk:wrap64 ((k:Int)+1)=k+1:=IntWalk.wrap64_in _ (by have:=(b_h HM.out).2.1;have:=HBN.out;have:=HBL.out;have:=HNL.out;omega);clear hb5
  by_cases h0:tm=0
  ·have HO:=hid (d_N ho.out HTT.out (by simp only [h_a,HRT.out,Bool.true_and,decide_eq_true_eq];left;rw [HTM.out];exact h0));subst h0
   go_wp2_with fail
   go_roundw
   case rel=>exact ⟨k+1,by omega,by go_num,HO.out,HB5.out⟩
   case measure=>rw [hwk];simp only [intOf];omega
  ·have h1:(0:Int) < tm:=by omega
   by_cases h2:tm=n
   ·have HO:=hid (d_N ho.out HTT.out (by simp only [h_a,HRT.out,Bool.true_and,decide_eq_true_eq];right;rw [HTM.out];exact h2));subst h2
    go_wp2_with fail
    go_roundw
    case rel=>exact ⟨k+1,by omega,by go_num,HO.out,HB5.out⟩
    case measure=>rw [hwk];simp only [intOf];omega
   ·have h3:((tm:Int) != (n:Int))=true:=by simp;omega
    have HY:=hid (show a_5 X=false from b_W (.inr (.inr (.inr ⟨t,List.mem_of_getElem? HTT.out,by
     simp only [h_a,HRT.out,Bool.true_and,decide_eq_false_iff_not];rw [HTM.out,HTN.out,HNL.out];omega⟩))))
    go_wp2_with fail
    go_ret
    exact a_e HY.out HB5w.out
 ):p:=h
theorem J16 {p:Prop} (h:p:=by
  refine a_d rfl (a_o (v:=.int .i64 0) ?_ (a_v hK C rfl rfl));simp [execOp,go_sem,e0]
 ):p:=h
theorem J17 {p:Prop} (h:p:=by
  obtain ⟨y0,g0⟩:=HR1.out 0 _ rfl;obtain ⟨y1,g1⟩:=HR1.out 1 _ rfl;obtain ⟨y2,g2⟩:=HR1.out 2 _ rfl;obtain ⟨y3,g3⟩:=HR1.out 3 _ rfl;obtain ⟨y4,g4⟩:=HR1.out 4 _ rfl;obtain ⟨y5,g5⟩:=HR1.out 5 _ rfl;obtain ⟨y6,g6⟩:=HR1.out 6 _ rfl;obtain ⟨y7,g7⟩:=HR1.out 7 _ rfl;obtain ⟨y8,g8⟩:=HR1.out 8 _ rfl;obtain ⟨y9,g9⟩:=HR1.out 9 _ rfl;obtain ⟨y10,g10⟩:=HR1.out 10 _ rfl;obtain ⟨y11,g11⟩:=HR1.out 11 _ rfl;obtain ⟨y12,g12⟩:=HR1.out 12 _ rfl
  go_wp2
  refine a_j ⟨w.heap.size+1,0,none⟩ rfl rfl rfl (a_8 _ _ d_d none none 0 0 0 0 (a_r (xs:=thN) HR1.out rfl)) ?_;exact b_m (e_m (by rw [HE.out];decide)) HE.out (a_m (g:=w.heap.size+1) (xs:=thN) (k:=0) (by omega) HB1.out)
 ):p:=h
theorem J18 {p:Prop} (h:p:=by
  exact ⟨_,rfl,b_J hK rfl rfl (b_l C.base hb2 HCN.out) (a_f hb2)⟩
 ):p:=h
theorem J19 {p:Prop} (h:p:=by
  show (b_Y a0 l vals 0).tmps.getD t undef=a0.tmps.getD t undef
  rw [Array.getD_eq_getD_getElem?,Array.getD_eq_getD_getElem?,b_9 t l vals a0 0 (fun hm=>by
   have:l.contains (some t)=true:=List.contains_iff_mem.2 hm;rw [this] at ht;cases ht)]
 ):p:=h
theorem J20 {p:Prop} (h:p:=by
  go_wp2_with (refine a_h rfl 46 _ _ rfl (w.heap.size+1) (thC z fa fn fc la ln lc).toArray rfl rfl _ HR9.out rfl (by kernel_rfl) (a_V _ _ _ _ _ _ _) ?_;intro U HU)
  refine a_j ⟨w.heap.size+1,0,none⟩ rfl rfl rfl (b_a HU HR9.out rfl) ?_;exact ⟨rfl,a_T HU (by omega) HB9.out⟩
 ):p:=h
theorem J21 {p:Prop} (h:p:=by
  obtain ⟨g1,g2⟩:=hv j hjl (a_a hj e);refine ⟨fun i hi=>a_g (g1 i hi),?_⟩
  have hm:(a_Q S j).map (fun i=>if i=k then v else vals i)=(a_Q S j).map vals:=List.map_congr_left fun i hi=>by
   rw [if_neg];intro h5;subst h5;exact hu (g1 i hi)
  rw [hm];exact h3 j e g2
 ):p:=h
theorem J22 {p:Prop} (h:p:=by
  have HS:=hid (hstep hok.out (hf));clear hok hstep
  go_wp2_with fail
  refine (a_t ((k:Int),a,b,c) 2 _ (by omega)).mono ?_;rintro e w1 ⟨rfl,hb1⟩;rw [show c_6 ((k:Int),a,b,c) 2=c from rfl];have HB2:=hid (a_b HBW.out hb1);clear hb1 HBW x0 x1 x2 x3
  go_wp2
  go_roundw
  case rel=>exact ⟨3,by omega,by go_num,HS.out,HB2.out⟩
  case measure=>simp [intOf]
 ):p:=h
theorem J23 {p:Prop} (h:p:=by
  have HS:=hid (hstep hok.out (hf));clear hok hstep
  go_wp2_with fail
  refine (a_t ((k:Int),a,b,c) 1 _ (by omega)).mono ?_;rintro e w1 ⟨rfl,hb1⟩;rw [show c_6 ((k:Int),a,b,c) 1=b from rfl];have HB2:=hid (a_b HBW.out hb1);clear hb1 HBW x0 x1 x2 x3
  go_wp2
  go_roundw
  case rel=>exact ⟨2,by omega,by go_num,HS.out,HB2.out⟩
  case measure=>simp [intOf]
 ):p:=h
theorem J24 {p:Prop} (h:p:=by
  have HS:=hid (hstep hok.out (hf));clear hok hstep
  go_wp2_with fail
  refine (a_t ((k:Int),a,b,c) 0 _ (by omega)).mono ?_;rintro e w1 ⟨rfl,hb1⟩;rw [show c_6 ((k:Int),a,b,c) 0=a from rfl];have HB2:=hid (a_b HBW.out hb1);clear hb1 HBW x0 x1 x2 x3
  go_wp2
  go_roundw
  case rel=>exact ⟨1,by omega,by go_num,HS.out,HB2.out⟩
  case measure=>simp [intOf]
 ):p:=h
theorem J25 {p:Prop} (h:p:=by
  go_wp2_with (refine a_h rfl 80 _ _ rfl (w.heap.size+1) woK.toArray rfl rfl _ HZ1.out rfl (by kernel_rfl) (by simp [Value.oneCell']) ?_;intro U HU)
  refine a_j ⟨w.heap.size+1,0,none⟩ rfl rfl rfl (a_4 (show a_p U (w.heap.size+1) woK by rw [HU.out];exact a_r HZ1.out rfl) 80 Tryz.underlying80 rfl (by kernel_rfl)) ?_;exact ⟨by rw [HEV.out];rfl,by rw [HU.out];exact a_m (by omega) HB1.out⟩
 ):p:=h
theorem J26 {p:Prop} (h:p:=by
  have HEV:=hid (show E'=3 by
   have e2:=HE2.out;rw [←HSL.out] at e2;rw [←HE'.out,c_2,if_pos HRC.out,if_pos e2,if_neg];intro h;have h3:=List.all_eq_true.1 h (starts.getD k 0) (by rw [List.getD_eq_getElem?_getD,List.getElem?_eq_getElem hk2];exact List.getElem_mem hk2);rw [HSS.out,HCL.out] at h3;have:=of_decide_eq_true h3
   omega)
  go_wp2_with (refine a_h rfl 33 _ _ rfl (w.heap.size+1) woZ.toArray rfl rfl _ HZR.out rfl (by kernel_rfl) (by simp [Value.oneCell']) ?_;intro Z HZZ)
  refine a_j ⟨w.heap.size+1,0,none⟩ rfl rfl rfl (a_4 (show a_p Z (w.heap.size+1) woZ by rw [HZZ.out];exact a_r HZR.out rfl) 33 Tryz.underlying33 rfl (by kernel_rfl)) ?_;rw [←HY.out];exact d_m HE'.out (by rw [HEV.out];decide) (by rw [HEV.out];rfl) (by rw [HZZ.out];exact a_m (by omega) HBR.out)
 ):p:=h
theorem J27 {p:Prop} (h:p:=by
  go_wp2
  refine a_j ⟨w.heap.size+1,0,none⟩ rfl rfl rfl (b_b _ _ _ _ _ _ HR.out.1 HR.out.2.1 HR.out.2.2.1 HR.out.2.2.2) ?_;exact c_i (a_Y (g:=w.heap.size+1) HB.out (by omega) _ _ _ _)
 ):p:=h
theorem J28 {p:Prop} (h:p:=by
  subst e;refine ⟨fun i hi=>?_,h1⟩;have hm:=List.contains_iff_mem.1 (List.all_eq_true.1 hD i hi)
  rcases List.mem_cons.1 hm with h8 | h8
  ·rw [h8];exact c_L
  ·exact a_g (hall i h8)
 ):p:=h
theorem J29 {p:Prop} (h:p:=by
  obtain ⟨y0,g0⟩:=HR1.out 0 _ rfl;obtain ⟨y1,g1⟩:=HR1.out 1 _ rfl;obtain ⟨y2,g2⟩:=HR1.out 2 _ rfl;obtain ⟨y3,g3⟩:=HR1.out 3 _ rfl;obtain ⟨y4,g4⟩:=HR1.out 4 _ rfl;obtain ⟨y5,g5⟩:=HR1.out 5 _ rfl;obtain ⟨y6,g6⟩:=HR1.out 6 _ rfl;obtain ⟨y7,g7⟩:=HR1.out 7 _ rfl;obtain ⟨y8,g8⟩:=HR1.out 8 _ rfl;obtain ⟨y9,g9⟩:=HR1.out 9 _ rfl;obtain ⟨y10,g10⟩:=HR1.out 10 _ rfl;obtain ⟨y11,g11⟩:=HR1.out 11 _ rfl;obtain ⟨y12,g12⟩:=HR1.out 12 _ rfl
  go_wp2
  refine a_j ⟨w.heap.size+1,0,none⟩ rfl rfl rfl (a_8 _ _ d_d none none 0 0 0 0 (a_r (xs:=thN) HR1.out rfl)) ?_;exact b_m (g_V (by rw [HE.out];decide)) HE.out (a_m (g:=w.heap.size+1) (xs:=thN) (k:=0) (by omega) HB1.out)
 ):p:=h
theorem J30 {p:Prop} (h:p:=by
  refine a_d rfl (a_o (v:=.agg zs.toArray) ?_ (a_v hK C rfl rfl));simp [execOp,go_sem,e0]
 ):p:=h
theorem J31 {p:Prop} (h:p:=by
  go_enter Tryz.func153,Tryz.ntmps153
  go_wp2_with fail
  refine (b_z _ _ n c n' c' ws ts _ (slA _ (slA _ S1)) (slA _ (slA _ S2))).mono ?_;rintro e w1 ⟨rfl,hb⟩;have hb1:Below w.heap.size w w1:=a_b (by go_grown) hb;obtain ⟨hc,hf⟩:=e_M hb;have hs1:w.heap.size+1 < w1.heap.size:=by have:=hb.size;simp at this;omega
  have g3:w1.cell? ⟨w.heap.size+1,0,none⟩=some (.slice none 0 0):=by rw [hc _ _ (by simp)];simp
  have g4:w1.cell? ⟨w.heap.size+1,1,none⟩=some (.slice none 0 0):=by rw [hc _ _ (by simp)];simp
  rw [Hm.out]
  go_wp2
  refine a_j ⟨w.heap.size+1,0,none⟩ rfl rfl rfl (d_h _ _ _ _ (by go_cell_look) (by go_cell_look)) ?_;exact c_5 (by go_grown)
 ):p:=h
theorem J32 {p:Prop} (h:p:=by
  have h1:=List.all_eq_true.1 hw i (List.mem_range.2 hi)
  rcases Bool.or_eq_true_iff.1 h1 with h2 | h2
  ·exact hu2 i (List.contains_iff_mem.1 h2)
  ·obtain ⟨j,hj,h3⟩:=List.any_eq_true.1 h2;simp only [Bool.and_eq_true] at h3;have hjn:j < n:=by simpa [Nat.blt_eq] using h3.1
   exact (hv j (by omega) (hu2 j hj)).1 i (List.contains_iff_mem.1 h3.2)
 ):p:=h
theorem J33 {p:Prop} (h:p:=by
  exact ⟨_,rfl,h_c hK hG (fun _ _ _ _ _ _=>trivial) hb2 rfl rfl (a_b C.base hb2)⟩
 ):p:=h
theorem J34 {p:Prop} (h:p:=by
  go_wp2_with (refine a_h rfl 46 _ _ rfl (w.heap.size+2) thN.toArray rfl rfl _ HR2.out rfl (by kernel_rfl) (a_V d_d none none 0 0 0 0) ?_;intro U HU)
  refine a_j ⟨w.heap.size+2,0,none⟩ rfl rfl rfl (b_a (t:=d_d) HU HR2.out rfl) ?_;exact b_m (g_r (by rw [HE.out];decide)) HE.out (a_T HU (by omega) HB2.out)
 ):p:=h
theorem J35 {p:Prop} (h:p:=by
  show (b_Y a0 l vals 0).tmps.getD t undef=_
  rw [Array.getD_eq_getD_getElem?,c_g t l vals a0 0 j hn hj ht,Nat.zero_add];rfl
 ):p:=h
theorem J36 {p:Prop} (h:p:=by
  rcases List.mem_append.1 hi with h5 | h5
  ·exact hu2 i h5
  ·obtain ⟨q,hq,hq2⟩:=List.mem_flatMap.1 h5;exact (hv q (hlt q hq) (hu2 q hq)).1 i hq2
 ):p:=h
theorem J37 {p:Prop} (h:p:=by
  exact a_d rfl (wp_load_mid 30 _ rfl (g) (1) ((a_s a1 _).symm.trans e0) [.slice L.ws.a L.ws.n L.ws.c,.slice L.ts.a L.ts.n L.ts.c,.int .i64 D,.slice L.bs.a L.bs.n L.bs.c] _ (m_4 (a_f C.base HXD.out)) Tryz.underlying30 rfl (by kernel_rfl) (b_k hK C rfl rfl))
 ):p:=h
theorem J38 {p:Prop} (h:p:=by
  rw [hrt] at h0;have HC:=hid h0;have HY:=hid (show a_5 X=false from b_W (.inr (.inr (.inr ⟨t,List.mem_of_getElem? HTT.out,by simp [h_a,hrt]⟩))));clear h0 hrt
  go_wp2_with (refine wpList_load_mid rfl 46 _ rfl wo.heap.size 0 rfl (thC t ta tn tc qa tm qc) _ (a_l HT2.out) Tryz.underlying46 rfl (by kernel_rfl) ?_)
  refine HC.out.mono ?_;clear HC;rintro e5 w5 ⟨rfl,hb5⟩;have HB5:=hid (a_b HB2.out (a_b HB4.out hb5));clear hb5
  go_wp2
  go_ret
  exact a_e HY.out HB5.out
 ):p:=h
theorem J39 {p:Prop} (h:p:=by
  clear hloc
  go_wp2_with fail
  refine HC.out.mono ?_;clear HC;rintro e2 V2 ⟨hh,hb2⟩
  rcases hh with ⟨hz,rfl,hx⟩ | ⟨hz,rfl,hx⟩
  ·have HX:=hid (show b_u g b Sx X Y k E w (.returned (.tuple #[])) V2 from ⟨.inl ⟨hz,rfl,hx⟩,HBNU.out.trans hb2⟩);clear hz hx hb2
   go_wp2
   first | go_ret | go_end0
   exact HX.out
  ·have HX:=hid (show b_u g b Sx X Y k E w (.panicked (j_L E)) V2 from ⟨.inr ⟨hz,rfl,hx⟩,HBNU.out.trans hb2⟩);clear hz hx hb2
   go_wp2
   exact And.intro rfl HX.out
 ):p:=h
theorem J40 {p:Prop} (h:p:=by
  go_wp2
  go_ret
  refine ⟨?_,(Below.refl _ _).alloc (Nat.le_refl _) _⟩;clear k0 k1
  rcases (show k=0∨k=1∨k=2∨k=3∨k=4∨k=5∨k=6∨k=7∨k=8∨k=9∨k=10∨k=11∨k=12∨k=13∨k=14∨k=15∨k=16∨k=17∨k=18∨k=19∨k=20∨k=21∨k=22∨k=23∨k=24∨k=25∨k=26 by omega) with rfl | rfl | rfl | rfl | rfl | rfl | rfl | rfl | rfl | rfl | rfl | rfl | rfl | rfl | rfl | rfl | rfl | rfl | rfl | rfl | rfl | rfl | rfl | rfl | rfl | rfl | rfl <;> rfl
 ):p:=h
theorem J41 {p:Prop} (h:p:=by
  cases hq:P.funcs[f]? with
  | none=>rw [hq] at hf;cases hf
  | some fn =>
   rw [hq] at hf;simp only [Option.map_some,Option.some.injEq,Prod.mk.injEq] at hf;have h1:¬ fn.name="runtime.NumGoroutine":=by simpa using hf.1
   have h2:¬ fn.body=none:=by have:=hf.2;cases hx:fn.body <;> simp_all
   have hv':args.map a.eval=vs.toArray:=Array.toList_inj.1 (by rw [Array.toList_map,hv]);unfold execOp;simp [ho,resolve,Deferred.ofValue,hx,invoke,callFunc,hq,h1,h2,hv']
 ):p:=h
theorem J42 {p:Prop} (h:p:=by
  have HL:=Lib.hid (show d_F ps depth (x,y)=[] by rw [d_F,Hn.out,HE.out,if_neg (by decide)]);rw [HE.out]
  go_enter Tryz.func150,Tryz.ntmps150
  go_wp2
  go_ret2
  exact c_V HL.out (by go_grown)
 ):p:=h
theorem J43 {p:Prop} (h:p:=by
  go_wp2_with (refine a_h rfl 46 _ _ rfl (w.heap.size+1) (thC z fa1 fn1 fc1 la1 ln1 lc1).toArray rfl rfl _ HR9.out rfl (by kernel_rfl) (a_V _ _ _ _ _ _ _) ?_;intro U HU)
  refine a_j ⟨w.heap.size+1,0,none⟩ rfl rfl rfl (b_a HU HR9.out rfl) ?_;have hq:=a_9 (Q:=fun b=>w.heap.size+2≤b) (w':=U) (by rw [HU.out];exact a_E (fun b hb=>by omega)) HQ.out;exact c_9 HN.out.1 HN.out.2 (c_b (fun b hb=>by omega) hq) (a_T HU (by omega) HB9.out)
 ):p:=h
theorem J44 {p:Prop} (h:p:=by
  go_enter Tryz.func125,Tryz.ntmps125
  go_wp2
  go_ret
  exact ⟨c_k (by simp [b_U];omega),by go_grown⟩
 ):p:=h
theorem J45 {p:Prop} (h:p:=by
  rw [HM.out] at h0;unfold p_S at h0;refine h0.mono ?_;clear h0;rintro e w1 ⟨rfl,hb1⟩;have HB3:=hid (a_b HB2.out hb1);clear hb1 g0 g1 g2 g3
  cases mb with
  | true =>
   have HS:=hid (g_C hf.out HX.out HM.out)
   go_wp2
   go_roundw
   case rel=>exact ⟨k+1,by omega,by go_num,HS.out,HB3.out⟩
   case measure=>simp [intOf];omega
  | false =>
   have HS:=hid (h_7 Hn.out HX.out HM.out)
   go_wp2
   go_ret
   exact a_e HS.out HB3.out
 ):p:=h
theorem J46 {p:Prop} (h:p:=by
  go_wp2
  refine a_j ⟨w.heap.size+1,0,none⟩ rfl rfl rfl (d_h _ _ _ _ (by go_cell_look) (by go_cell_look)) ?_;exact c_5 (by go_grown)
 ):p:=h
theorem J47 {p:Prop} (h:p:=by
  have ht:t < a0.tmps.size:=by simpa [Nat.blt_eq] using ht
  show (b_Y a0 l vals 0).tmps.getD t undef=_
  rw [Array.getD_eq_getD_getElem?,c_g t l vals a0 0 j (of_decide_eq_true hnd) hj ht,Nat.zero_add];rfl
 ):p:=h
theorem J48 {p:Prop} (h:p:=by
  rcases (show j=0∨j=1∨j=2∨j=3∨j=4∨j=5∨j=6∨j=7 by omega) with rfl | rfl | rfl | rfl | rfl | rfl | rfl | rfl <;> rfl
 ):p:=h
theorem J49 {p:Prop} (h:p:=by
  have h27:k=0∨k=1∨k=2∨k=3∨k=4∨k=5∨k=6∨k=7∨k=8∨k=9∨k=10∨k=11∨k=12∨k=13∨k=14∨k=15∨k=16∨k=17∨k=18∨k=19∨k=20∨k=21∨k=22∨k=23∨k=24∨k=25∨k=26:=by omega
  rcases h27 with rfl | rfl | rfl | rfl | rfl | rfl | rfl | rfl | rfl | rfl | rfl | rfl | rfl | rfl | rfl | rfl | rfl | rfl | rfl | rfl | rfl | rfl | rfl | rfl | rfl | rfl | rfl <;> rfl
 ):p:=h
theorem J50 {p:Prop} (h:p:=by
  rintro e9 w2 ⟨a,c,rfl,hcap,-,hvs,hb2⟩;have hs1:=hb1.size;have hs2:=HHI.out;refine ⟨_,rfl,hK _ w2 ⟨a,c,rfl,hcap,a_P (fun b hb=>by omega) hvs⟩ ⟨fun h=>a_b (C.base.1 h) hb2,C.base.2.andB hb2⟩ (fun j _ h=>hG j _ _ _ hb2 h) (fun _ _ h=>h) (fun e=>absurd e (by decide)) (fun e=>absurd e (by decide)) (fun e=>absurd e (by decide))⟩
 ):p:=h
theorem J51 {p:Prop} (h:p:=by
  obtain ⟨x5,-⟩:=H.x 5 _ rfl;obtain ⟨x7,-⟩:=H.x 7 _ rfl;rw [H.hb] at x5;have i1:(0:Int)≤k:=by omega
  have i2:(k:Int) < L.th.n:=by have:=H.hk;have:=H.hn;omega
  clear H
  go_enter Tryz.func78,Tryz.ntmps78
  go_upto_region 1 with fail
  go_quiet (fail)
  go_wp2
  go_ret
  exact ⟨rfl,_,rfl⟩
 ):p:=h
theorem J52 {p:Prop} (h:p:=by
  have HZZ:=hid hz2;clear hz hz2
  go_wp2_with (refine a_h rfl 46 _ _ rfl (w.heap.size+1) (thC z fa fn fc la ln lc).toArray rfl rfl _ HR3.out rfl (by kernel_rfl) (a_V _ _ _ _ _ _ _) ?_;intro U HU)
  refine a_j ⟨w.heap.size+1,0,none⟩ rfl rfl rfl (b_a HU HR3.out rfl) ?_;rw [HZZ.out];exact ⟨rfl,a_T HU (by omega) HB1.out⟩
 ):p:=h
theorem J53 {p:Prop} (h:p:=by
  go_wp2
  go_ret
  exact ⟨none,0,rfl,b_C,World.ownsRow_nil _ _ _ _,Below.refl _ _⟩
 ):p:=h
theorem J54 {p:Prop} (h:p:=by
  go_wp2_with (refine a_h rfl 46 _ _ rfl (w.heap.size+2) thN.toArray rfl rfl _ HR1.out rfl (by kernel_rfl) (a_V d_d none none 0 0 0 0) ?_;intro U HU)
  refine a_j ⟨w.heap.size+2,0,none⟩ rfl rfl rfl (b_a (t:=d_d) HU HR1.out rfl) ?_;exact b_m (g_r (by rw [HE.out];decide)) HE.out (a_T HU (by omega) HB1.out)
 ):p:=h
theorem J55 {p:Prop} (h:p:=by
  rw [hm] at h0;have HC:=hid h0;have HY:=hid (show a_5 X=false from b_W (.inr (.inl (by rw [HD.out];exact hm))));clear h0 hm
  go_wp2_with fail
  refine HC.out.mono ?_;clear HC x1 x2 x3 x4 x5;rintro e2 w2 ⟨rfl,hb2⟩;have HB2:=hid (a_b HB1.out hb2);clear hb2
  go_wp2
  go_ret
  exact a_e HY.out HB2.out
 ):p:=h
theorem J56 {p:Prop} (h:p:=by
  rw [hb] at hf;clear hb hok hstep
  go_wp2_with fail
  refine (hf _).mono ?_;rintro e w' ⟨rfl,h⟩
  cases h
  go_wp2
  go_ret
  exact a_e HS.out HB.out
 ):p:=h
theorem J57 {p:Prop} (h:p:=by
  go_enter Tryz.func108,Tryz.ntmps108
  go_wp2
  go_returns
  exact d_o Hm.out (by simp) (by go_grown)
 ):p:=h
theorem J58 {p:Prop} (h:p:=by
  go_enter Tryz.func12,Tryz.ntmps12
  go_wp2
  go_ret
  exact b_H Hm.out (by go_grown)
 ):p:=h
theorem J59 {p:Prop} (h:p:=by
  refine .inr ⟨_,rfl,And.intro hdf ?_⟩;exact ⟨.inr ⟨hz,rfl,Q,L,c_p (a_b C.base hb2) HHV.out⟩,HBN.out.andB (a_b C.base hb2)⟩
 ):p:=h
theorem J60 {p:Prop} (h:p:=by
  have e0:a1.tmps[8]?.getD undef=.pointer (some ⟨w.heap.size,17,none⟩):=c_R C 4 8 rfl rfl rfl rfl;have kc:=(C.base.2.1 17 (.int .i64 i.2.2.2) (by rw [HCS.out];rfl)).1;refine a_d rfl (a_o (v:=.int .i64 i.2.2.2) ?_ (a_v hK C rfl rfl));simp [execOp,go_sem,e0,kc]
 ):p:=h
theorem J61 {p:Prop} (h:p:=by
  have e0:=C.o 14 (.pointer (some ⟨w2.heap.size,0,none⟩));exact a_d rfl (wp_load_mid 33 _ rfl w2.heap.size 0 ((a_s a1 _).symm.trans e0) (woC M X2.D) _ (a_l (a_f C.base HX8.out)) Tryz.underlying33 rfl (by kernel_rfl) (b_k hK C rfl rfl))
 ):p:=h
theorem J62 {p:Prop} (h:p:=by
  rw [hrc] at h0;have HC:=hid h0;have HY:=hid (show a_5 X=false from b_W (.inl hrc));clear h0 hrc
  go_wp2_with fail
  refine HC.out.mono ?_;clear HC x0;rintro e1 w1 ⟨rfl,hb1⟩;have HB1:=hid (a_b HB.out hb1);clear hb1
  go_wp2
  go_ret
  exact a_e HY.out HB1.out
 ):p:=h
theorem J63 {p:Prop} (h:p:=by
  exact a_d rfl (wp_load_mid 26 _ rfl (g) (1) ((a_s a1 _).symm.trans e0) [.slice L.ws.a L.ws.n L.ws.c,.slice L.ts.a L.ts.n L.ts.c] _ (o_O (a_f C.base HH2.out.x)) Tryz.underlying26 rfl (by kernel_rfl) (b_k hK C rfl rfl))
 ):p:=h
theorem J64 {p:Prop} (h:p:=by
  go_wp2
  go_ret
  exact a_e HF.out (HB1.out.trans (HB.out.mono HB1.out.size))
 ):p:=h
theorem J65 {p:Prop} (h:p:=by
  go_wp2
  refine c_S ⟨w.heap.size+1,0,none⟩ rfl rfl rfl (b_b _ _ _ _ _ _ HZ.out.1.1 HZ.out.1.2.1 HZ.out.1.2.2.1 HZ.out.1.2.2.2) ?_;rw [HES.out];exact g_5 (by decide) (a_Y (g:=w.heap.size+1) HB1.out (by omega) _ _ _ _)
 ):p:=h
theorem J66 {p:Prop} (h:p:=by
  refine a_d rfl (a_o (v:=.pointer (some ⟨w.heap.size,14,none⟩)) ?_ (a_v hK C rfl rfl));have e0:a1.tmps[1]?.getD undef=.pointer (some ⟨w.heap.size,0,none⟩):=(a_s a1 1).trans (C.old 1 rfl);simp [execOp,go_sem,e0]
 ):p:=h
theorem J67 {p:Prop} (h:p:=by
  have hne:((L.th.n:Int) != (L.bs.n:Int))=true:=by simp;omega
  have HY:=hid (show a_5 X=false from b_W (.inr (.inr (.inl (by rw [HTN.out,HBN.out];exact hl)))));clear hl
  go_wp2_with fail
  go_ret
  exact a_e HY.out HB2.out
 ):p:=h
theorem J68 {p:Prop} (h:p:=by
  have e0:a1.tmps[7]?.getD undef=.pointer (some ⟨w.heap.size,14,none⟩):=c_R C 3 7 rfl rfl rfl rfl;refine a_d rfl (a_o (v:=.pointer (some ⟨w.heap.size,17,none⟩)) ?_ (a_v hK C rfl rfl));simp [execOp,go_sem,e0]
 ):p:=h
theorem J69 {p:Prop} (h:p:=by
  go_upto_region 1 with fail
  rw [←HW.out]
  go_wp2
  exact And.intro rfl ⟨.inr ⟨HX0.out,rfl⟩,HB.out⟩
 ):p:=h
theorem J70 {p:Prop} (h:p:=by
  refine a_d rfl (a_o (v:=.pointer (some ⟨g,1,none⟩)) ?_ (b_k hK C rfl rfl));simp [execOp,go_sem,e0]
 ):p:=h
theorem J71 {p:Prop} (h:p:=by
  refine a_d rfl (a_o (v:=.pointer (some ⟨g,0,none⟩)) ?_ (b_k hK C rfl rfl));simp [execOp,go_sem,e0]
 ):p:=h
theorem J72 {p:Prop} (h:p:=by
  obtain rfl:k=n:=by omega
  have HY:=hid (show a_5 X=true from g_H HRC.out HM.out (by have:=HTN.out;have:=HBN.out;have:=HBL.out;omega) (HTN.out.trans HNL.out) ho.out)
  go_wp2
  go_ret
  exact a_e HY.out HB3.out
 ):p:=h
theorem J73 {p:Prop} (h:p:=by
  clear h17
  go_wp2_with fail
  go_ret
  exact a_e HYW.out.symm HBU.out
 ):p:=h
theorem J74 {p:Prop} (h:p:=by
  have e0:a1.tmps[1]?.getD undef=.slice sa sn sc:=(a_s a1 1).trans (hf 15 1 rfl rfl rfl);refine a_d rfl (a_o (v:=.slice sa sn sc) ?_ (b_k hK C rfl rfl));simp [execOp,go_sem,e0]
 ):p:=h
theorem J75 {p:Prop} (h:p:=by
  have e0:a1.tmps[0]?.getD undef=.slice ca cn cc:=(a_s a1 0).trans (hf 14 0 rfl rfl rfl);refine a_d rfl (a_o (v:=.slice ca cn cc) ?_ (b_k hK C rfl rfl));simp [execOp,go_sem,e0]
 ):p:=h
theorem J76 {p:Prop} (h:p:=by
  refine a_d rfl (a_o (v:=.bool false) ?_ (b_k hK C rfl rfl));simp [execOp,go_sem,e0]
 ):p:=h
theorem J77 {p:Prop} (h:p:=by
  go_upto_region 1 with fail
  rw [←HW.out]
  go_wp2
  go_ret
  exact e_W HE.out HB.out
 ):p:=h
theorem J78 {p:Prop} (h:p:=by
  go_enter Tryz.func107,Tryz.ntmps107
  go_wp2
  all_goals
   go_ret
   refine b_8 ?_;rw [Bool.eq_iff_iff];simp [b_j]
   try omega
 ):p:=h
theorem J79 {p:Prop} (h:p:=by
  go_wp2_with fail
  go_roundw
  case rel=>exact ⟨k+1,by omega,by go_num,by rw [HNX.out];simp [m_s,hs0],hb⟩
  case measure=>rw [hwk];simp only [intOf];omega
 ):p:=h
theorem J80 {p:Prop} (h:p:=by
  simp [Instr.index,run_underlying Tryz.underlying151,asIntOf,go_sem]
 ):p:=h
theorem J81 {p:Prop} (h:p:=by
  rintro e w1 ⟨rfl,hb⟩;rw [HM.out];have HB:=Lib.hid (a_b (by go_grown) hb:Below w.heap.size w w1);clear hb
  go_wp2
  go_ret
  exact a_e HT.out HB.out
 ):p:=h
theorem J82 {p:Prop} (h:p:=by
  go_wp2
  go_quiet (fail)
  go_wp2
  go_roundw
  case rel=>exact ⟨k+1,by omega,by go_num,HT.out,below_drewN hb.out nq⟩
  case measure=>simp [intOf];omega
 ):p:=h
theorem J83 {p:Prop} (h:p:=by
  go_wp2
  go_quiet (fail)
  go_wp2
  go_roundw
  case rel=>exact ⟨k+1,by omega,by go_num,HS.out,below_drewN HB.out _⟩
  case measure=>simp [intOf];omega
 ):p:=h
theorem J84 {p:Prop} (h:p:=by
  go_wp2
  refine a_j ⟨w.heap.size+1,0,none⟩ rfl rfl rfl (b_b _ _ _ _ _ _ H4.out.1.1 H4.out.1.2.1 H4.out.1.2.2.1 H4.out.1.2.2.2) ?_;exact HZ.out
 ):p:=h
theorem J85 {p:Prop} (h:p:=by
  clear h
  go_enter Tryz.func169,Tryz.ntmps169
  go_wp2
  go_ret
  exact d_M HV.out (Below.refl _ _)
 ):p:=h
theorem J86 {p:Prop} (h:p:=by
  intro i hi
  by_cases e:i=k
  ·subst e;exact h1
  ·exact h i (by omega)
 ):p:=h
theorem J87 {p:Prop} (h:p:=by
  have kc:=((C.base.1 (hbl rfl)) 12 _ rfl).1;refine a_d rfl (a_o (v:=.slice la ln lc) ?_ (b_k hK C rfl rfl));simp [execOp,go_sem,e0,kc]
 ):p:=h
theorem J88 {p:Prop} (h:p:=by
  clear hin
  go_wp2
  go_ret
  exact a_e HF.out (HB1.out.trans ((HB.out.trans ((HBI.out.alloc hszi _).mono HB.out.size)).mono HB1.out.size))
 ):p:=h
theorem J89 {p:Prop} (h:p:=by
  have kc:=((C.base.1 (hbl rfl)) 9 _ rfl).1;refine a_d rfl (a_o (v:=.slice fa fn fc) ?_ (b_k hK C rfl rfl));simp [execOp,go_sem,e0,kc]
 ):p:=h
theorem J90 {p:Prop} (h:p:=by
  rcases h.2 with h | ⟨b,o,h,_⟩
  ·exact h
  ·rw [e] at h;cases h
 ):p:=h
theorem J91 {p:Prop} (h:p:=by
  rw [inW,List.getD_eq_getElem?_getD,List.getElem?_eq_getElem (show pc.toNat < X.code.length by omega)];exact List.getElem_mem _
 ):p:=h
theorem J92 {p:Prop} (h:p:=by
  refine ⟨by omega,fun f hf=>?_⟩;obtain ⟨i,hi,rfl⟩:=List.mem_iff_getElem.1 hf;exact h i _ (by omega) (by simp [hi])
 ):p:=h
theorem J93 {p:Prop} (h:p:=by
  obtain ⟨cs,h1,h2⟩:=H.ev;have h3:=a_M h2;have h4:cs.length=L.ev.n*6:=h1.1;have h5:repEv.k=6:=rfl;rw [h5] at h3
  omega
 ):p:=h
theorem J94 {p:Prop} (h:p:=by
  go_wp2
  first | go_ret | go_end0
  refine ⟨.inl ⟨rfl,rfl,Q,L,?_⟩,HBE.out⟩;rw [←HY.out,←HTT.out];exact HHE.out
 ):p:=h
theorem J95 {p:Prop} (h:p:=by
  apply Classical.byContradiction
  intro hn;have:w.heap[a.block]?=none:=by simp;omega
  simp [World.cell?,this] at h
 ):p:=h
theorem J96 {p:Prop} (h:p:=by
  refine a_d rfl (a_o (v:=.pointer (some ⟨bt,k2*13+12,none⟩)) ?_ (b_k hK C rfl rfl));simp [execOp,go_sem,e0]
 ):p:=h
theorem J97 {p:Prop} (h:p:=by
  refine a_d rfl (a_o (v:=.pointer (some ⟨b,k*13+1,none⟩)) ?_ (b_k hK C rfl rfl));simp [execOp,go_sem,e0]
 ):p:=h
theorem N0 {p:Prop} (h:p:=by exact Lib.hid (cj hf0<|cj hC<|cj hf2<|cj hf3<|cj hf4<|cj hf5<|cj hf6<|cj hf7<|cj hf8<|cj hf9<|cj hf10<|cj hf11<|cj hS<|cj hf13<|cj hW13<|cj hf14<|cj hW14<|cj hf15<|cj hA<|cj hT<|cj hf18<|cj hb<|hw)):p:=h
theorem N1 {p:Prop} (h:p:=by exact hid (show Below w.heap.size w W by rw [hW];go_grown)):p:=h
theorem N2 {p:Prop} (h:p:=by exact (show Below w.heap.size w W by rw [hW];go_grown)):p:=h
theorem N3 {p:Prop} (h:p:=by exact hid (cj hf0<|cj hf1<|cj hf2<|cj hf3<|cj hf4<|cj hf5<|cj hf6<|cj hf7<|cj hf8<|cj hN<|cj hA<|cj hf11<|cj hT<|cj hb<|hw)):p:=h
theorem N4 {p:Prop} (h:p:=by exact (show Below w.heap.size w w1 from a_b (by go_grown) hb)):p:=h
theorem N5 {p:Prop} (h:p:=by exact hid (show Below W.heap.size W V by rw [hm];exact below_drewN (Below.refl _ _) m)):p:=h
theorem N6 {p:Prop} (h:p:=by exact hid (show (Tryz.prog.info? 46).map (·.size)=some zs.toArray.size by rw [hzs];kernel_rfl)):p:=h
theorem N7 {p:Prop} (h:p:=by exact (show a_p W w.heap.size (tkC t fa fn fc la ln lc self i) by rw [hW];exact a_O _ (a_i (tkC t fa fn fc la ln lc self i) _ rfl))):p:=h
theorem N8 {p:Prop} (h:p:=by exact hid (cj hf0<|cj hf1<|cj hf2<|cj hC<|cj hf4<|cj hf5<|cj hf6<|cj hW6<|cj hD<|cj hf8<|cj hW8<|cj hf9<|cj hS<|cj hf11<|cj hb<|hw)):p:=h
theorem N9 {p:Prop} (h:p:=by exact hid (show a_p W w.heap.size (inC (op,ra,rb,rc)) by rw [hW];exact a_i _ _ rfl)):p:=h
theorem N10 {p:Prop} (h:p:=by exact hid (show (Tryz.prog.info? 168).map (·.size)=some cs.length by rw [hcs];kernel_rfl)):p:=h
theorem N11 {p:Prop} (h:p:=by exact (show a_p W (w.heap.size+1) thN by rw [hW];exact a_i thN _ (by simp))):p:=h
theorem N12 {p:Prop} (h:p:=by exact hid (show zs.toArray=(thC z fa fn fc la ln lc).toArray by rw [hzs])):p:=h
theorem N13 {p:Prop} (h:p:=by exact (show vals 31=.tuple #[.agg #[.slice a n c,.slice a' n' c',.int .i64 sD,.slice q l d],.int .i64 lv,.int .i64 se] from List.head_eq_of_cons_eq (List.tail_eq_of_cons_eq h1))):p:=h
theorem N14 {p:Prop} (h:p:=by exact (show a1.eval (.tmp 4)=.agg cs.toArray from got C 0 4 rfl rfl rfl rfl)):p:=h
theorem N15 {p:Prop} (h:p:=by exact hid (show Bel Sx w V from c_c HBV.out)):p:=h
theorem N16 {p:Prop} (h:p:=by exact hid (show 0 < cs.length by rw [hcs];exact Nat.zero_lt_succ _)):p:=h
theorem N17 {p:Prop} (h:p:=by exact Lib.hid (cj hf0<|cj hf1<|cj hf2<|cj hX<|cj hO<|cj hSX<|cj hSO<|cj hb<|hw)):p:=h
theorem N18 {p:Prop} (h:p:=by exact (show a1.tmps[6]?.getD undef=.int .i64 (rgt t i.2.2.1) from c_R C 2 6 rfl rfl rfl rfl)):p:=h
theorem N19 {p:Prop} (h:p:=by exact Lib.hid (b_Z R (.slice none 0 0) (.slice none 0 0) (.int .i64 0) (.slice none 0 0))):p:=h
theorem N20 {p:Prop} (h:p:=by exact hid (b_n Q g b L X k W HH.out)):p:=h
theorem N21 {p:Prop} (h:p:=by exact Lib.hid (And.intro e (And.intro (show d_t ws ts i k tag=[] by rw [d_t,if_neg (by rw [e];decide)]) (show d_i ws ts i k tag=[] by rw [d_i,if_neg (by rw [e];decide)])))):p:=h
theorem N22 {p:Prop} (h:p:=by exact hid (cj hf0<|cj hf1<|cj hf2<|cj hC<|cj hf4<|cj hf5<|cj hf6<|cj hW6<|cj hD<|cj hf8<|cj hW8<|cj hf9<|cj hS<|cj hf11<|hw)):p:=h
theorem N23 {p:Prop} (h:p:=by exact (show ∀ j,j∈ws→j < l.length from fun j hj=>of_decide_eq_true (List.all_eq_true.1 hd j hj))):p:=h
theorem N24 {p:Prop} (h:p:=by exact (show a_p W w.heap.size (thC t fa fn fc la ln lc) by rw [hW];exact a_O _ (a_i (thC t fa fn fc la ln lc) _ rfl))):p:=h
theorem N25 {p:Prop} (h:p:=by exact hid (show zs.length=13 by rw [hzs];rfl)):p:=h
theorem N26 {p:Prop} (h:p:=by exact (show ∀ i,w1.frozen? ⟨w.heap.size+1,i,none⟩=false by intro i;rw [hb.frozen (p:=⟨w.heap.size+1,i,none⟩) (by simp)];exact b_X (a_W _ _ _ (by simp)))):p:=h
theorem N27 {p:Prop} (h:p:=by exact (show vals 32=.tuple #[.agg #[.slice a n c,.slice a' n' c',.int .i64 sD,.slice q l d],.int .i64 lv,.int .i64 se] from List.head_eq_of_cons_eq h1)):p:=h
theorem N28 {p:Prop} (h:p:=by exact (show ∀ (fn:Fn) (first cap:Array Value) (w:World),(Instr.makeFunc fn first cap).run Tryz.prog w=.ok (.func fn first cap) w from fun _ _ _ _=>rfl)):p:=h
theorem N29 {p:Prop} (h:p:=by exact hid (And.intro hi (And.intro hz0 (And.intro hz1 hz2)))):p:=h
theorem N30 {p:Prop} (h:p:=by exact hid (show Below w.heap.size w U by rw [HU.out];exact a_m HB1.out.size (HB1.out.alloc HB1.out.size _))):p:=h
theorem N31 {p:Prop} (h:p:=by exact (show a1.tmps[11]?.getD undef=.tuple #[.agg zs.toArray,.int .i64 0] from c_R C 7 11 rfl rfl rfl rfl)):p:=h
theorem N32 {p:Prop} (h:p:=by exact (show w1.cell? ⟨w.heap.size,3,none⟩=some (.slice q l d) from a_n hb (by simp))):p:=h
theorem N33 {p:Prop} (h:p:=by exact (show a1.tmps[8]?.getD undef=.tuple #[.agg zs.toArray,.int .i64 0] from c_R C 4 8 rfl rfl rfl rfl)):p:=h
theorem N34 {p:Prop} (h:p:=by exact hid (cj hf0<|cj hf1<|cj hf2<|cj hf3<|cj hA<|cj hT<|cj hb<|hw)):p:=h
theorem N35 {p:Prop} (h:p:=by exact c_t w t self i fa fn fc la ln lc hcs):p:=h
theorem N36 {p:Prop} (h:p:=by exact ((Below.refl w.heap.size w).alloc (Nat.le_refl _) (.cells #[] 3)).grown hgrow (by simp) (fun r hr=>by cases hr;simp)):p:=h
theorem N37 {p:Prop} (h:p:=by exact (show a1.tmps[8]?.getD undef=.int .i64 (rgt t i.2.2.2) from c_R C 4 8 rfl rfl rfl rfl)):p:=h
theorem N38 {p:Prop} (h:p:=by exact (show a_p W w.heap.size (tkC t fa fn fc la ln lc self i) by rw [hW];exact a_i (tkC t fa fn fc la ln lc self i) _ rfl)):p:=h
theorem N39 {p:Prop} (h:p:=by exact hid (show a_p W w.heap.size [.slice L.ws.a L.ws.n L.ws.c,.slice L.ts.a L.ts.n L.ts.c] by rw [hW];exact a_O _ (a_i [.slice L.ws.a L.ws.n L.ws.c,.slice L.ts.a L.ts.n L.ts.c] _ rfl))):p:=h
theorem N40 {p:Prop} (h:p:=by exact hid (show Bel Sx w (U.setCell ⟨b,k*13,none⟩ (.int .i64 (pc+1))) from HBU.out.setCell (p:=⟨b,k*13,none⟩) HNN.out.2 _)):p:=h
theorem N41 {p:Prop} (h:p:=by exact Lib.hid (p_F (w:=w1) (g:=w.heap.size+1) (.slice none 0 0) (.slice none 0 0) (.int .i64 0) (.slice none 0 0) (by rw [r0];rfl) (by rw [r1];rfl) (by rw [r2];rfl) (by rw [r3];rfl))):p:=h
theorem N42 {p:Prop} (h:p:=by exact hid (show W.heap.size=w.heap.size+2 by rw [hW];simp)):p:=h
theorem N43 {p:Prop} (h:p:=by exact (show w1.cell? ⟨w.heap.size,2,none⟩=some (.int .i64 D) from a_n hb (by simp))):p:=h
theorem N44 {p:Prop} (h:p:=by exact (show a_p W w.heap.size (thC t fa fn fc la ln lc) by rw [hW];exact a_i (thC t fa fn fc la ln lc) _ rfl)):p:=h
theorem N45 {p:Prop} (h:p:=by exact (show decide ((n:Int) < 1)=false by simp;omega)):p:=h
theorem N46 {p:Prop} (h:p:=by exact Lib.hid (And.intro hi (And.intro hz0 (And.intro hz1 hz2)))):p:=h
theorem N47 {p:Prop} (h:p:=by exact hid (show Below W.heap.size W V by rw [HV.out];exact a_m (by have:=HZ1.out;have:=HSZ.out;omega) (HB1.out.alloc (by have:=HZ1.out;have:=HSZ.out;omega) _))):p:=h
theorem N48 {p:Prop} (h:p:=by exact (show w.heap.size+1 < w1.heap.size by have:=hb.size;simp at this;omega)):p:=h
theorem N49 {p:Prop} (h:p:=by exact (show a1.eval (.tmp 7)=.agg cs.toArray from got C 3 7 rfl rfl rfl rfl)):p:=h
theorem N50 {p:Prop} (h:p:=by exact Lib.hid (a_b (by go_grown) hb:Below w.heap.size w w1)):p:=h
theorem N51 {p:Prop} (h:p:=by exact (show W.heap.size=w.heap.size+2 by rw [hW];simp)):p:=h
theorem N52 {p:Prop} (h:p:=by exact (show -9223372036854775808≤i∧i≤9223372036854775807 by simpa [Lit.wf,IntKind.min,IntKind.max,IntKind.signed,IntKind.bits] using hi)):p:=h
theorem N53 {p:Prop} (h:p:=by exact (show w1.cell? ⟨w.heap.size+1,0,none⟩=some (.slice none 0 0) from a_n hb (by simp))):p:=h
theorem N54 {p:Prop} (h:p:=by exact (show w1.cell? ⟨w.heap.size+1,1,none⟩=some (.slice none 0 0) from a_n hb (by simp))):p:=h
theorem N55 {p:Prop} (h:p:=by exact (show w1.cell? ⟨w.heap.size+1,3,none⟩=some (.slice none 0 0) from a_n hb (by simp))):p:=h
theorem N56 {p:Prop} (h:p:=by exact hid (show a_p w1 (w.heap.size+1) zs from hv 9 (by decide))):p:=h
theorem N57 {p:Prop} (h:p:=by exact (show w1.cell? ⟨w.heap.size+1,2,none⟩=some (.int .i64 0) from a_n hb (by simp))):p:=h
theorem N58 {p:Prop} (h:p:=by exact hid (show a_p V g (wkC L D k) by have h:=HHV.out.x;rw [HD.out] at h;exact h)):p:=h
theorem N59 {p:Prop} (h:p:=by exact hid (show a_p W w.heap.size (woC L D) by rw [hW];exact a_O _ (a_i _ _ rfl))):p:=h
theorem N60 {p:Prop} (h:p:=by exact (show ((n:Int) != m)=true by simp;omega)):p:=h
theorem N61 {p:Prop} (h:p:=by exact e_q t self i fa la fn fc ln lc w1 Hc.out):p:=h
theorem N62 {p:Prop} (h:p:=by exact hid (show (f_l t ra.toNat (b_T X.ws X.ts (rgt t rb))).pc=t.pc from rfl)):p:=h
theorem N63 {p:Prop} (h:p:=by exact (show decide (160 < (n:Int))=false by simp;omega)):p:=h
theorem N64 {p:Prop} (h:p:=by exact hid (show a_p W w.heap.size (woC L D) by rw [hW];exact a_i _ _ rfl)):p:=h
theorem N65 {p:Prop} (h:p:=by exact hid (hb.alloc hb.size (Obj.cells #[.int .i64 x0,.int .i64 x1,.int .i64 x2,.int .i64 x3] 66))):p:=h
theorem N66 {p:Prop} (h:p:=by exact hid (show cs.length=8∧cs.toArray.all (·.oneCell')=true by rw [←hcs,o_1];split <;> simp [Value.oneCell'])):p:=h
theorem N67 {p:Prop} (h:p:=by exact hid (show a_p V w.heap.size (woC L D) by rw [HV.out];exact a_y (by have:=HSZ.out;omega) (a_O _ HX3.out))):p:=h
theorem N68 {p:Prop} (h:p:=by exact (show kOk ((k:Int),a,b,c) m sg 0=true by rw [hv];simp [b_j];omega)):p:=h
theorem N69 {p:Prop} (h:p:=by exact (show kOk ((k:Int),a,b,c) m sg 1=true by rw [hv];simp [b_j];omega)):p:=h
theorem N70 {p:Prop} (h:p:=by exact (show kOk ((k:Int),a,b,c) m sg 2=true by rw [hv];simp [b_j];omega)):p:=h
theorem N71 {p:Prop} (h:p:=by exact (show Below w.heap.size w w2 from hb1.trans (hb'.mono (by omega)))):p:=h
theorem N72 {p:Prop} (h:p:=by exact (show c_n (fun b=>b < wo.heap.size) wo V by rw [HV.out];exact b_M (h_N _ _) (a_E (fun b hb=>by omega)))):p:=h
theorem N73 {p:Prop} (h:p:=by exact hid (show a_p V wo.heap.size (thC t ta tn tc qa tm qc) by rw [HV.out];exact a_r (a_i thN _ rfl) rfl)):p:=h
theorem N74 {p:Prop} (h:p:=by exact (show a1.tmps[7]?.getD undef=.tuple #[.agg zs.toArray,.int .i64 0] from c_R C 3 7 rfl rfl rfl rfl)):p:=h
theorem N75 {p:Prop} (h:p:=by exact hid (show a_p U w1.heap.size cs by rw [HU.out];exact a_r (a_i woK _ rfl) (by rw [HL8.out.1];rfl))):p:=h
theorem N76 {p:Prop} (h:p:=by exact (show Below W.heap.size W W.drew from (Below.refl _ _).drew)):p:=h
theorem N77 {p:Prop} (h:p:=by exact (show wrap64 (pc+1)=pc+1 from IntWalk.wrap64_in _ (by rw [←hpc2,HZT.out];have:=HPC.out;omega))):p:=h
theorem N78 {p:Prop} (h:p:=by exact (show wrap64 (pc+1)=pc+1 from IntWalk.wrap64_in _ (by rw [←hpc2,HTU.out];have:=HPC.out;omega))):p:=h
theorem N79 {p:Prop} (h:p:=by exact (show w.heap.size+1 < w2.heap.size by have:=hb'.size;omega)):p:=h
theorem N80 {p:Prop} (h:p:=by exact hid (j_U (i:=((k:Int),a,b,c)) (m:=m) H0.out (fun q hq=>by rw [HOP.out];exact hok.out q hq))):p:=h
theorem N81 {p:Prop} (h:p:=by exact (show w1.cell? ⟨w.heap.size+1,0,none⟩=some (.slice none 0 0) by rw [hc _ _ (by simp)];simp)):p:=h
theorem N82 {p:Prop} (h:p:=by exact (show w1.cell? ⟨w.heap.size+1,1,none⟩=some (.slice none 0 0) by rw [hc _ _ (by simp)];simp)):p:=h
theorem N83 {p:Prop} (h:p:=by exact (show Below w2.heap.size w2 Y0 by rw [hY0];exact (Below.refl _ _).alloc (Nat.le_refl _) _)):p:=h
theorem N84 {p:Prop} (h:p:=by exact hid (hstep hok.out (by rw [hv];exact decide_eq_true hz))):p:=h
theorem N85 {p:Prop} (h:p:=by exact hid (cj hf0<|cj hf1<|cj hf2<|cj hf3<|cj hf4<|cj hb<|hw)):p:=h
theorem N86 {p:Prop} (h:p:=by exact (show ∀ j,(⟨g,j,none⟩:Addr)≠⟨b,o,none⟩ from fun j e=>hne (congrArg Addr.block e).symm)):p:=h
theorem N87 {p:Prop} (h:p:=by exact hid (And.intro ki (And.intro kz0 (And.intro kz1 kz2)))):p:=h
theorem N88 {p:Prop} (h:p:=by exact (show (x != 0)=true by simpa using h0)):p:=h
theorem N89 {p:Prop} (h:p:=by exact (show a1.tmps[6]?.getD undef=.int .i64 (rgt t i.2.1) from c_R C 2 6 rfl rfl rfl rfl)):p:=h
theorem N90 {p:Prop} (h:p:=by exact hid (show a_p V w1.heap.size (rgC t.r) by rw [HV.out];exact a_r (a_i rgZ _ rfl) rfl)):p:=h
theorem N91 {p:Prop} (h:p:=by exact hid (show Below w2.heap.size w2 V by rw [HV.out];exact a_m hsz (hb.out.alloc hsz _))):p:=h
theorem N92 {p:Prop} (h:p:=by exact (show a_p W w.heap.size (rgC r) by rw [hW];exact a_O _ (a_O _ (a_i (rgC r) _ rfl)))):p:=h
theorem N93 {p:Prop} (h:p:=by exact d_1 HR1.out.th (k:=0) (by have:=(b_h HM.out).2.1;have:=HBN.out;have:=HBL.out;omega)):p:=h
theorem N94 {p:Prop} (h:p:=by exact (show ∀ k,(⟨g',o,none⟩:Addr)≠⟨g,k,none⟩ from fun k e=>hne (congrArg Addr.block e))):p:=h
theorem N95 {p:Prop} (h:p:=by exact (show vs[f+j]?=some (vs[f+j]'(by omega)) by simp [show f+j < vs.length by omega])):p:=h
theorem N96 {p:Prop} (h:p:=by exact (show w1.cell? ⟨w.heap.size,1,none⟩=some (.slice a' n' c') from a_n hb (by simp))):p:=h
theorem N97 {p:Prop} (h:p:=by exact hid (show Below W.heap.size W w1 by rw [hm];exact below_drewN (Below.refl _ _) m)):p:=h
theorem N98 {p:Prop} (h:p:=by exact (show ¬ Up listed n from fun h=>hu (hI.1 h k hkn))):p:=h
theorem N99 {p:Prop} (h:p:=by exact Int.eq_ofNat_of_zero_le h0):p:=h
theorem N100 {p:Prop} (h:p:=by exact (show a1.tmps[9]?.getD undef=.int .i64 i.2.2.2 from c_R C 5 9 rfl rfl rfl rfl)):p:=h
theorem N101 {p:Prop} (h:p:=by exact (show w1.cell? ⟨w.heap.size,0,none⟩=some (.slice a n c) from a_n hb (by simp))):p:=h
theorem N102 {p:Prop} (h:p:=by exact (show wrap64 ((k:Int)+1)=k+1 from IntWalk.wrap64_in _ (by have:=HN.out;omega))):p:=h
theorem N103 {p:Prop} (h:p:=by exact (show j < ps.length*2 by rw [←b_N];exact (List.getElem?_eq_some_iff.1 hu).1)):p:=h
theorem N104 {p:Prop} (h:p:=by exact hid (show w1.heap.size+1≤w2.heap.size by have:=hb2.size;have:=HSU.out;omega)):p:=h
theorem N105 {p:Prop} (h:p:=by exact (show Region.wanted o (yielded ops a.tmps)=true by simp [Region.wanted,hg])):p:=h
theorem N106 {p:Prop} (h:p:=by exact hid (show (Lit.int .i64 at_).wf=true by rw [←hat];exact RowKit.wrap64_wf _)):p:=h
theorem N107 {p:Prop} (h:p:=by exact (show vals 11=.bool false from List.head_eq_of_cons_eq (hv 11 (by decide)))):p:=h
theorem N108 {p:Prop} (h:p:=by exact (show a1.tmps[13]?.getD undef=.int .i64 0 from c_R C 9 13 rfl rfl rfl rfl)):p:=h
theorem N109 {p:Prop} (h:p:=by exact (show a1.tmps[10]?.getD undef=.int .i64 0 from c_R C 6 10 rfl rfl rfl rfl)):p:=h
theorem N110 {p:Prop} (h:p:=by exact C.o 14 (.pointer (some ⟨w2.heap.size,0,none⟩))):p:=h
theorem N111 {p:Prop} (h:p:=by exact (show kOk ((k:Int),a,b,c) m sg 0=decide (a=0) by rw [kOk,if_neg hlt];rfl)):p:=h
theorem N112 {p:Prop} (h:p:=by exact (show kOk ((k:Int),a,b,c) m sg 1=decide (b=0) by rw [kOk,if_neg hlt];rfl)):p:=h
theorem N113 {p:Prop} (h:p:=by exact (show kOk ((k:Int),a,b,c) m sg 2=decide (c=0) by rw [kOk,if_neg hlt];rfl)):p:=h
theorem N114 {p:Prop} (h:p:=by exact hid (show a_p W w.heap.size (inC (0,0,0,0)) by rw [hW];exact a_i _ _ rfl)):p:=h
theorem N115 {p:Prop} (h:p:=by exact (show j < 8 by have:=(List.getElem?_eq_some_iff.1 hj).1;simpa using this)):p:=h
theorem N116 {p:Prop} (h:p:=by exact hid (show a_p W (w.heap.size+1) woK by rw [hW];exact a_i woK _ (by simp))):p:=h
theorem N117 {p:Prop} (h:p:=by exact (show vals 13=.pointer (some ⟨g,0,none⟩) from List.head_eq_of_cons_eq g1)):p:=h
theorem N118 {p:Prop} (h:p:=by exact hid (hstep hok.out (by rw [HV.out];exact hb))):p:=h
theorem N119 {p:Prop} (h:p:=by exact (show k < n by simpa [Nat.blt_eq] using hkn)):p:=h
theorem N120 {p:Prop} (h:p:=by exact (show U.frozen? ⟨b,k*13,none⟩=false from pf)):p:=h
theorem N121 {p:Prop} (h:p:=by exact hid (show X.th.length=L.th.n from R.th.1)):p:=h
theorem N122 {p:Prop} (h:p:=by exact DataW.trod_int Tryz.underlying3 t0):p:=h
theorem N123 {p:Prop} (h:p:=by exact g_j (hv 10 (by decide)) rfl):p:=h
theorem N124 {p:Prop} (h:p:=by exact (show (ev != 0)=true by simpa using he)):p:=h
end Go.Proofs.YtolabfafgbmdbaaGreatDoor
