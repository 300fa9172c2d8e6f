import Derived.Below
import Derived.BigQuiet
import Derived.Carry
import Derived.ChangeKeysEq
import Derived.Deep.AppendLies
import Derived.Deep.CutBlock
import Derived.Deep.DeepCutAuto
import Derived.Deep.DeepHandedRow
import Derived.Deep.DrawnRows
import Derived.Deep.MidRow
import Derived.Deep.QuietTactic
import Derived.Deep.RegionHeld3
import Derived.Deep.RegionLaw
import Derived.Deep.RegionLawGrows
import Derived.Deep.RegionWith
import Derived.Deep.SlicePairs
import Derived.Deep.Slices
import Derived.Deep.Strs
import Derived.Defers
import Derived.Handy
import Derived.IntWalk
import Derived.LaidMore
import Derived.Laws.AppendOwnNone
import Derived.Laws.CopyOwn
import Derived.Laws.Cover3
import Derived.Laws.IdiomCopy
import Derived.Laws.Rows
import Derived.Lay
import Derived.Lib.AppendIntMem
import Derived.Lib.AtoiAll
import Derived.Lib.AtoiAllCases
import Derived.Lib.AtoiErrMem
import Derived.Lib.Hide
import Derived.Lib.IndexBytes
import Derived.Lib.IndexLaws
import Derived.Lib.ItoaLen
import Derived.Lib.ItoaNum
import Derived.Lib.SmallJoins
import Derived.Lib.Split
import Derived.Lib.Zigzag
import Derived.LoopIn
import Derived.LoopNIn
import Derived.Maps.AppendAt
import Derived.Maps.OwnIn
import Derived.Maps.OwnSet
import Derived.Maps.Views
import Derived.OpenShut
import Derived.OwnWalkIn
import Derived.ProofKit
import Derived.RangeFuncBound
import Derived.RangeFuncBox
import Derived.RangeFuncCalls
import Derived.RangeFuncLeaves
import Derived.RangeFuncNested
import Derived.Recover
import Derived.RegionTactic
import Derived.SevenTiedAt
import Derived.Shelf.Abstract
import Derived.Shelf.RegionOpen
import Derived.StillTailTactics
import Derived.Stop.LaidErr
import Derived.TacticsInMore
import Derived.WalkKit
import Derived.WalkSmall
import Derived.WalkSpells
import Derived.Test.YtogdpojnbgeknaaGreatDoorProg
namespace Go.Proofs.YtogdpojnbgeknaaGreatDoor
open Go.ChangeShapes Go.WideShapes Go.ChangeAt Go.RowKit
theorem nm {α:Sort _} (x:α):∃ y,y=x:=⟨x,rfl⟩
theorem mn {α:Sort _} (x:α):∃ y,x=y:=⟨x,rfl⟩
theorem hh2 {p0 p1:Prop} (h0:p0) (h1:p1):Hid p0∧Hid p1:=⟨h0,h1⟩
theorem hh3 {p0 p1 p2:Prop} (h0:p0) (h1:p1) (h2:p2):Hid p0∧Hid p1∧Hid p2:=⟨h0,h1,h2⟩
theorem hh4 {p0 p1 p2 p3:Prop} (h0:p0) (h1:p1) (h2:p2) (h3:p3):Hid p0∧Hid p1∧Hid p2∧Hid p3:=⟨h0,h1,h2,h3⟩
theorem hh5 {p0 p1 p2 p3 p4:Prop} (h0:p0) (h1:p1) (h2:p2) (h3:p3) (h4:p4):Hid p0∧Hid p1∧Hid p2∧Hid p3∧Hid p4:=⟨h0,h1,h2,h3,h4⟩
theorem hh6 {p0 p1 p2 p3 p4 p5:Prop} (h0:p0) (h1:p1) (h2:p2) (h3:p3) (h4:p4) (h5:p5):Hid p0∧Hid p1∧Hid p2∧Hid p3∧Hid p4∧Hid p5:=⟨h0,h1,h2,h3,h4,h5⟩
theorem hh7 {p0 p1 p2 p3 p4 p5 p6:Prop} (h0:p0) (h1:p1) (h2:p2) (h3:p3) (h4:p4) (h5:p5) (h6:p6):Hid p0∧Hid p1∧Hid p2∧Hid p3∧Hid p4∧Hid p5∧Hid p6:=⟨h0,h1,h2,h3,h4,h5,h6⟩
theorem hh8 {p0 p1 p2 p3 p4 p5 p6 p7:Prop} (h0:p0) (h1:p1) (h2:p2) (h3:p3) (h4:p4) (h5:p5) (h6:p6) (h7:p7):Hid p0∧Hid p1∧Hid p2∧Hid p3∧Hid p4∧Hid p5∧Hid p6∧Hid p7:=⟨h0,h1,h2,h3,h4,h5,h6,h7⟩
theorem hh9 {p0 p1 p2 p3 p4 p5 p6 p7 p8:Prop} (h0:p0) (h1:p1) (h2:p2) (h3:p3) (h4:p4) (h5:p5) (h6:p6) (h7:p7) (h8:p8):Hid p0∧Hid p1∧Hid p2∧Hid p3∧Hid p4∧Hid p5∧Hid p6∧Hid p7∧Hid p8:=⟨h0,h1,h2,h3,h4,h5,h6,h7,h8⟩
theorem hh10 {p0 p1 p2 p3 p4 p5 p6 p7 p8 p9:Prop} (h0:p0) (h1:p1) (h2:p2) (h3:p3) (h4:p4) (h5:p5) (h6:p6) (h7:p7) (h8:p8) (h9:p9):Hid p0∧Hid p1∧Hid p2∧Hid p3∧Hid p4∧Hid p5∧Hid p6∧Hid p7∧Hid p8∧Hid p9:=⟨h0,h1,h2,h3,h4,h5,h6,h7,h8,h9⟩
theorem hh11 {p0 p1 p2 p3 p4 p5 p6 p7 p8 p9 p10:Prop} (h0:p0) (h1:p1) (h2:p2) (h3:p3) (h4:p4) (h5:p5) (h6:p6) (h7:p7) (h8:p8) (h9:p9) (h10:p10):Hid p0∧Hid p1∧Hid p2∧Hid p3∧Hid p4∧Hid p5∧Hid p6∧Hid p7∧Hid p8∧Hid p9∧Hid p10:=⟨h0,h1,h2,h3,h4,h5,h6,h7,h8,h9,h10⟩
theorem hh12 {p0 p1 p2 p3 p4 p5 p6 p7 p8 p9 p10 p11:Prop} (h0:p0) (h1:p1) (h2:p2) (h3:p3) (h4:p4) (h5:p5) (h6:p6) (h7:p7) (h8:p8) (h9:p9) (h10:p10) (h11:p11):Hid p0∧Hid p1∧Hid p2∧Hid p3∧Hid p4∧Hid p5∧Hid p6∧Hid p7∧Hid p8∧Hid p9∧Hid p10∧Hid p11:=⟨h0,h1,h2,h3,h4,h5,h6,h7,h8,h9,h10,h11⟩
theorem hh13 {p0 p1 p2 p3 p4 p5 p6 p7 p8 p9 p10 p11 p12:Prop} (h0:p0) (h1:p1) (h2:p2) (h3:p3) (h4:p4) (h5:p5) (h6:p6) (h7:p7) (h8:p8) (h9:p9) (h10:p10) (h11:p11) (h12:p12):Hid p0∧Hid p1∧Hid p2∧Hid p3∧Hid p4∧Hid p5∧Hid p6∧Hid p7∧Hid p8∧Hid p9∧Hid p10∧Hid p11∧Hid p12:=⟨h0,h1,h2,h3,h4,h5,h6,h7,h8,h9,h10,h11,h12⟩
theorem hh14 {p0 p1 p2 p3 p4 p5 p6 p7 p8 p9 p10 p11 p12 p13:Prop} (h0:p0) (h1:p1) (h2:p2) (h3:p3) (h4:p4) (h5:p5) (h6:p6) (h7:p7) (h8:p8) (h9:p9) (h10:p10) (h11:p11) (h12:p12) (h13:p13):Hid p0∧Hid p1∧Hid p2∧Hid p3∧Hid p4∧Hid p5∧Hid p6∧Hid p7∧Hid p8∧Hid p9∧Hid p10∧Hid p11∧Hid p12∧Hid p13:=⟨h0,h1,h2,h3,h4,h5,h6,h7,h8,h9,h10,h11,h12,h13⟩
theorem hh15 {p0 p1 p2 p3 p4 p5 p6 p7 p8 p9 p10 p11 p12 p13 p14:Prop} (h0:p0) (h1:p1) (h2:p2) (h3:p3) (h4:p4) (h5:p5) (h6:p6) (h7:p7) (h8:p8) (h9:p9) (h10:p10) (h11:p11) (h12:p12) (h13:p13) (h14:p14):Hid p0∧Hid p1∧Hid p2∧Hid p3∧Hid p4∧Hid p5∧Hid p6∧Hid p7∧Hid p8∧Hid p9∧Hid p10∧Hid p11∧Hid p12∧Hid p13∧Hid p14:=⟨h0,h1,h2,h3,h4,h5,h6,h7,h8,h9,h10,h11,h12,h13,h14⟩
theorem hh16 {p0 p1 p2 p3 p4 p5 p6 p7 p8 p9 p10 p11 p12 p13 p14 p15:Prop} (h0:p0) (h1:p1) (h2:p2) (h3:p3) (h4:p4) (h5:p5) (h6:p6) (h7:p7) (h8:p8) (h9:p9) (h10:p10) (h11:p11) (h12:p12) (h13:p13) (h14:p14) (h15:p15):Hid p0∧Hid p1∧Hid p2∧Hid p3∧Hid p4∧Hid p5∧Hid p6∧Hid p7∧Hid p8∧Hid p9∧Hid p10∧Hid p11∧Hid p12∧Hid p13∧Hid p14∧Hid p15:=⟨h0,h1,h2,h3,h4,h5,h6,h7,h8,h9,h10,h11,h12,h13,h14,h15⟩
theorem sA {α:Type _} (l:List α) (i:Nat) (a:α):l.toArray.setIfInBounds i a=(l.set i a).toArray:=List.setIfInBounds_toArray l i a
theorem sB {α:Type _} (a b:α) (l:List α):(a::l).set 0 b=b::l:=rfl
theorem sC {α:Type _} (a b:α) (n:Nat) (l:List α):(a::l).set (n+1) b=a::l.set n b:=rfl
theorem J0 {p:Prop} (h:p:=by
  have HTT:=Lib.hid (show c_s ws ts x=ts by rw [c_s,if_pos HEV.out]);rw [HTS.out] at u1;rw [HTT.out] at u2;obtain ⟨Z0,hZ0⟩:∃ Z,Z=w3.alloc (Obj.cells #[.slice a2 n2 c2,.slice a3 n3 c3] 26):=⟨_,rfl⟩;have bz:Below w1.heap.size w1 Z0:=by rw [hZ0];exact hb3.alloc hb3.size _
  have b3:Below w3.heap.size w3 Z0:=by rw [hZ0];exact (Below.refl _ _).alloc (Nat.le_refl _) _
  have m0:Z0.cell? ⟨w3.heap.size,0,none⟩=some (.slice a2 n2 c2):=by rw [hZ0];exact a_Y _ _ _ rfl rfl
  have m1:Z0.cell? ⟨w3.heap.size,1,none⟩=some (.slice a3 n3 c3):=by rw [hZ0];exact a_Y _ _ _ rfl rfl
  have X3:=b_l bz HX1.out;have R3:=b_l bz HR1.out;obtain ⟨Z2,hZ2⟩:∃ Z,Z=(Z0.setCell ⟨w.heap.size,0,none⟩ (.slice a2 n2 c2)).setCell ⟨w.heap.size,1,none⟩ (.slice a3 n3 c3):=⟨_,rfl⟩;have X5:e_d Z2 w.heap.size (.slice a2 n2 c2) (.slice a3 n3 c3) (.int .i64 D) (.slice (some ⟨b,o,none⟩) l d):=by rw [hZ2];exact f_k X3 _ _
  have R5:e_d Z2 (w.heap.size+1) (.slice none 0 0) (.slice none 0 0) (.int .i64 0) (.slice none 0 0):=by rw [hZ2];exact c_c (c_c R3 (by omega) _) (by omega) _
  have B2:Below w.heap.size w Z2:=by rw [hZ2];exact ((a_a HB1.out bz).setCell (p:=⟨w.heap.size,0,none⟩) (Nat.le_refl _) _).setCell (p:=⟨w.heap.size,1,none⟩) (Nat.le_refl _) _
  have H6:=Lib.hid (b_A R5 (.slice a2 n2 c2) (.slice a3 n3 c3) (.int .i64 D) (.slice (some ⟨b,o,none⟩) l d))
  have kq:∀ (b1 o1:Nat) (u:Value),(b1≠w.heap.size∧b1≠w.heap.size+1)→w3.cell? ⟨b1,o1,none⟩=some u→((((Z2.setCell ⟨w.heap.size+1,0,none⟩ (.slice a2 n2 c2)).setCell ⟨w.heap.size+1,1,none⟩ (.slice a3 n3 c3)).setCell ⟨w.heap.size+1,2,none⟩ (.int .i64 D)).setCell ⟨w.heap.size+1,3,none⟩ (.slice (some ⟨b,o,none⟩) l d)).cell? ⟨b1,o1,none⟩=some u:=fun b1 o1 u hq hu=>by
   have k2:Z2.cell? ⟨b1,o1,none⟩=some u:=by
    rw [hZ2];exact a_1 (Q:=fun b=>b≠w.heap.size) (fun _ h=>h) _ _ _ hq.1 (a_1 (Q:=fun b=>b≠w.heap.size) (fun _ h=>h) _ _ _ hq.1 (a_t b3 hu))
   exact a_1 (Q:=fun b=>b≠w.heap.size+1) (fun _ h=>h) _ _ _ hq.2 (a_1 (Q:=fun b=>b≠w.heap.size+1) (fun _ h=>h) _ _ _ hq.2 (a_1 (Q:=fun b=>b≠w.heap.size+1) (fun _ h=>h) _ _ _ hq.2 (a_1 (Q:=fun b=>b≠w.heap.size+1) (fun _ h=>h) _ _ _ hq.2 k2)))
  have V1:=Lib.hid (a_n (fun b h=>h.1) (a_r (fun b o u hq hu=>kq b o u hq.2 hu) u1));have V2:=Lib.hid (a_n (fun b h=>h.1) (a_r (fun b o u hq hu=>kq b o u hq.2 hu) u2));have HB2:=Lib.hid B2;have HZ0:=Lib.hid hZ0;have HZ2:=Lib.hid hZ2;obtain ⟨⟨y0,y1,y2,y3⟩,y4,y5,y6,y7⟩:=X3;clear kq B2 hZ0 hZ2 u1 u2 hb3 b3 bz R3 x0 x1 x2 x3 g0 g1 g2 g3 T1 T2
  go_upto_region 14 with fail
  rw [←HZ0.out]
  go_upto_region 15 with fail
  rw [←HZ2.out];clear y0 y1 y2 y3 y4 y5 y6 y7 m0 m1;obtain ⟨⟨y0,y1,y2,y3⟩,-⟩:=X5;obtain ⟨⟨s0,s1,s2,s3⟩,t0,t1,t2,t3⟩:=R5
  go_wp2
  refine b_P ⟨w.heap.size+1,0,none⟩ rfl rfl rfl (a_9 _ _ _ _ _ _ H6.out.1.1 H6.out.1.2.1 H6.out.1.2.2.1 H6.out.1.2.2.2) ?_;have hbf:=a_W (g:=w.heap.size+1) HB2.out (by omega) (.slice a2 n2 c2) (.slice a3 n3 c3) (.int .i64 D) (.slice (some ⟨b,o,none⟩) l d);rw [HLV.out];exact f_X HES.out V1.out V2.out (n_z hbf PB) hbf
 ):p:=h
theorem J1 {p:Prop} (h:p:=by
  go_upto_region 1 with fail
  rw [←HW.out];have k9:=(HX.out 9 _ rfl).1
  go_wp2_with fail
  refine (f_z fa fn fc t.fs _ S1 C1 h1).mono ?_;rintro e w1 ⟨fa2,fc2,rfl,d1,d2,d3,hb1⟩;rw [HZ.out] at d2 d3;have hz1:=hb1.size;rw [HZ.out] at hz1;have X1:=a_h hb1 HX.out;have R1:=a_h hb1 HR.out;have B1:=a_a HB.out hb1;have S2':=a_B (a_C hb1) S2;obtain ⟨Z,hZ⟩:∃ Z,Z=w1.setCell ⟨w.heap.size,9,none⟩ (.slice fa2 t.fs.length fc2):=⟨_,rfl⟩;have X2:a_p Z w.heap.size (thC t fa2 t.fs.length fc2 la ln lc):=by rw [hZ];exact a_y X1 9 (by simp) _
  have R2:a_p Z (w.heap.size+1) thN:=by rw [hZ];exact a_l R1 (by omega) _
  have B2:Below w.heap.size w Z:=by rw [hZ];exact B1.setCell (p:=⟨w.heap.size,9,none⟩) (Nat.le_refl _) _
  have O2:Z.ownsRow (w.heap.size+2) 105 5 (.slice fa2 t.fs.length fc2) t.fs.length (t.fs.flatMap e_g):=by
   rw [hZ];exact d_U d2 _ (b_2 d2 (.inr (by show w.heap.size < _;omega))) _
  have V2:Vs repFr (fun b=>w.heap.size+2≤b) Z fa2 t.fs.length t.fs:=by rw [hZ];exact a_B (a_U _ _ _ (fun b hb=>by show b≠w.heap.size;omega)) d3
  have S3:Vs repInt Any Z la ln t.lf:=by rw [hZ];exact d_9 (a_B (a_U _ _ _ (fun b hb=>by show b≠w.heap.size;omega)) S2')
  have hz2:Z.heap.size=w1.heap.size:=by rw [hZ];simp [World.setCell]
  obtain ⟨y9,g9⟩:=X1 9 _ rfl;have HX2:=hid X2;have HR2:=hid R2;have HB2:=hid B2;have HO2:=hid O2;have HV2:=hid V2;have HD1:=hid d1;have HZ1:=hid hZ;have HZ2:=hid hz2;clear d1 d2 d3 hb1 X1 R1 B1 S2 S2' hZ X2 R2 B2 O2 V2 k9 hz2 S1
  go_upto_region 2 with fail
  rw [←HZ1.out];clear y9 g9;have k12:=(HX2.out 12 _ rfl).1
  go_wp2_with fail
  refine (f_A la ln lc t.lf _ S3 C2 h2).mono ?_;rintro e w2 ⟨la2,lc2,rfl,d1,d2,d3,hb1⟩;have hz3:=hb1.size;have X1:=a_h hb1 HX2.out;have R1:=a_h hb1 HR2.out;have B1:=a_a HB2.out hb1;have O1:=b_a HO2.out hb1;have V1:=g_u hb1 HV2.out;obtain ⟨Y,hY⟩:∃ Z,Z=w2.setCell ⟨w.heap.size,12,none⟩ (.slice la2 t.lf.length lc2):=⟨_,rfl⟩;have X2:a_p Y w.heap.size (thC t fa2 t.fs.length fc2 la2 t.lf.length lc2):=by rw [hY];exact a_y X1 12 (by simp) _
  have R2:a_p Y (w.heap.size+1) thN:=by rw [hY];exact a_l R1 (by omega) _
  have B2:Below w.heap.size w Y:=by rw [hY];exact B1.setCell (p:=⟨w.heap.size,12,none⟩) (Nat.le_refl _) _
  have O2:Y.ownsRow (w.heap.size+2) 105 5 (.slice fa2 t.fs.length fc2) t.fs.length (t.fs.flatMap e_g):=by
   rw [hY];exact d_U O1 _ (b_2 O1 (.inr (by show w.heap.size < _;omega))) _
  have V2:Vs repFr (fun b=>w.heap.size+2≤b) Y fa2 t.fs.length t.fs:=by rw [hY];exact a_B (a_U _ _ _ (fun b hb=>by show b≠w.heap.size;omega)) V1
  have L2:Vs repInt (fun b=>w.heap.size+2≤b∧(Value.slice fa2 t.fs.length fc2).ownBlock≠some b) Y la2 t.lf.length t.lf:=by
   rw [hY];exact a_B (a_U _ _ _ (fun b hb=>by show b≠w.heap.size;omega)) (b_e (fun b hb=>⟨by have:=HZ2.out;omega,fun e=>by have:=b_b HO2.out e;omega⟩) d3)
  obtain ⟨Y2,hY2⟩:∃ Z,Z=d_u Y (w.heap.size+1) 0 (thC t fa2 t.fs.length fc2 la2 t.lf.length lc2):=⟨_,rfl⟩;have R3:a_p Y2 (w.heap.size+1) (thC t fa2 t.fs.length fc2 la2 t.lf.length lc2):=by rw [hY2];exact a_q R2 rfl
  have B3:Below w.heap.size w Y2:=by rw [hY2];exact a_g (by omega) B2
  have O3:Y2.ownsRow w.heap.size 105 5 (.slice fa2 t.fs.length fc2) t.fs.length (t.fs.flatMap e_g):=by
   rw [hY2];exact r_9 (a_0 (b_2 (p:=⟨w.heap.size+1,0,none⟩) O2 (.inr (by show w.heap.size+1 < _;omega))) O2) (by omega)
  have V3:Vs repFr (fun b=>w.heap.size≤b) Y2 fa2 t.fs.length t.fs:=by rw [hY2];exact b_e (fun b hb=>by omega) (a_B (a_u (fun b hb=>by omega)) V2)
  have L3:Vs repInt (fun b=>w.heap.size≤b∧(Value.slice fa2 t.fs.length fc2).ownBlock≠some b) Y2 la2 t.lf.length t.lf:=by rw [hY2];exact b_e (fun b hb=>⟨by omega,hb.2⟩) (a_B (a_u (fun b hb=>by omega)) L2)
  obtain ⟨y12,g12⟩:=X1 12 _ rfl;have HX3:=hid X2;have HR3:=hid R2;have HY:=hid hY;have HFIN:=hid (And.intro R3 (And.intro d1 (And.intro B3 (And.intro O3 (And.intro V3 L3)))));have HY2:=hid hY2;clear d1 d2 d3 hb1 X1 R1 B1 O1 V1 hY X2 R2 B2 O2 V2 L2 hY2 R3 B3 O3 V3 L3 k12 S3 C1 C2
  go_upto_region 3 with fail
  rw [←HY.out];clear y12 g12;have k0:=(HX3.out 0 _ rfl).1;have k1:=(HX3.out 1 _ rfl).1;have k2:=(HX3.out 2 _ rfl).1;have k3:=(HX3.out 3 _ rfl).1;have k4:=(HX3.out 4 _ rfl).1;have k5:=(HX3.out 5 _ rfl).1;have k6:=(HX3.out 6 _ rfl).1;have k7:=(HX3.out 7 _ rfl).1;have k8:=(HX3.out 8 _ rfl).1;have k9:=(HX3.out 9 _ rfl).1;have k10:=(HX3.out 10 _ rfl).1;have k11:=(HX3.out 11 _ rfl).1;have k12:=(HX3.out 12 _ rfl).1;obtain ⟨y0,g0⟩:=HR3.out 0 _ rfl;obtain ⟨y1,g1⟩:=HR3.out 1 _ rfl;obtain ⟨y2,g2⟩:=HR3.out 2 _ rfl;obtain ⟨y3,g3⟩:=HR3.out 3 _ rfl;obtain ⟨y4,g4⟩:=HR3.out 4 _ rfl;obtain ⟨y5,g5⟩:=HR3.out 5 _ rfl;obtain ⟨y6,g6⟩:=HR3.out 6 _ rfl;obtain ⟨y7,g7⟩:=HR3.out 7 _ rfl;obtain ⟨y8,g8⟩:=HR3.out 8 _ rfl;obtain ⟨y9,g9⟩:=HR3.out 9 _ rfl;obtain ⟨y10,g10⟩:=HR3.out 10 _ rfl;obtain ⟨y11,g11⟩:=HR3.out 11 _ rfl;obtain ⟨y12,g12⟩:=HR3.out 12 _ rfl
  go_wp2
  have hf:=HFIN.out;rw [HY2.out] at hf;refine a_X ⟨w.heap.size+1,0,none⟩ rfl rfl rfl (b_s _ _ _ _ _ _ _ _ _ hf.1) ?_;exact ⟨_,_,_,_,rfl,HD1.out,hf.2.2.2.1,hf.2.2.2.2.1,hf.2.1,hf.2.2.2.2.2,hf.2.2.1⟩
 ):p:=h
theorem J2 {p:Prop} (h:p:=by
  refine InvV.cons rfl rfl rfl rfl (fun a1 vals w1 C K hK=>?_) ?_
  ·have e0:a1.tmps[10]?.getD undef=.tuple #[.agg zs.toArray,.int .i64 0]:=d_2 C 6 10 rfl rfl rfl rfl;refine a_i rfl (a_A (v:=.agg zs.toArray) ?_ (a_K hK C rfl rfl));simp [execOp,go_sem,e0]
  refine InvV.cons rfl rfl rfl rfl (fun a1 vals w1 C K hK=>?_) ?_
  ·have e0:a1.tmps[10]?.getD undef=.tuple #[.agg zs.toArray,.int .i64 0]:=d_2 C 6 10 rfl rfl rfl rfl;refine a_i rfl (a_A (v:=.int .i64 0) ?_ (a_K hK C rfl rfl));simp [execOp,go_sem,e0]
  refine InvV.cons rfl rfl rfl rfl (fun a1 vals w1 C K hK=>?_) ?_
  ·have e0:a1.eval (.tmp 11)=.agg zs.toArray:=got C 7 11 rfl rfl rfl rfl;obtain ⟨xs,hx,hn⟩:=C.base.2.2;refine a_i rfl (a_7 46 _ _ rfl (w.heap.size+1) zs.toArray (C.old _ rfl) e0 xs hx (by rw [List.size_toArray,HZN.out,hn]) HZI.out (by rw [HZA.out];exact a_L _ _ _ _ _ _ _) ?_);intro U HU;exact d_I hK (c_P HU hx hn HZN.out) (e_u HU C.base hx hn HZN.out)
  refine InvV.cons rfl rfl rfl rfl (fun a1 vals w1 C K hK=>?_) ?_
  ·have e0:a1.tmps[12]?.getD undef=.int .i64 0:=d_2 C 8 12 rfl rfl rfl rfl;refine a_i rfl (a_A (v:=.int .i64 0) ?_ (a_K hK C rfl rfl));simp [execOp,go_sem,e0]
  exact StepsL.nil
 ):p:=h
theorem J3 {p:Prop} (h:p:=by
  exact a_i rfl (wp_load_mid 168 _ rfl w.heap.size 0 (C.old _ rfl) cs _ (a_f C.base.2.1) Tryz.underlying168 rfl HCI.out (a_K hK C rfl rfl))
 ):p:=h
theorem J4 {p:Prop} (h:p:=by
  obtain ⟨z0,f0⟩:=HT4.out 0 _ rfl;have hp1:0≤t.pc:=by have:=HPK.out;omega
  have hp2:t.pc≤1000:=by have:=HPK.out;have:=HCL2.out;omega
  obtain ⟨V2,hV2⟩:∃ Z,Z=(U.setCell ⟨(w.heap.size+2),0,none⟩ (.int .i64 (t.pc+1))):=⟨_,rfl⟩;have HX3s:=hid (show a_p V2 (w.heap.size) _ by rw [hV2];exact (a_l (g':=(w.heap.size+2)) (o:=0) HX3.out (by omega) (.int .i64 (t.pc+1))));have HZ3s:=hid (show a_p V2 (w.heap.size+1) _ by rw [hV2];exact (a_l (g':=(w.heap.size+2)) (o:=0) HZ3.out (by omega) (.int .i64 (t.pc+1))));have HT4s:=hid (show a_p V2 ((w.heap.size+2)) (thC (⟨t.pc+1,t.r,t.fs,t.st,t.ft,t.lf⟩:Thr) ta tn tc qa tm qc) by have h:=(a_y HT4.out 0 (by simp) (.int .i64 (t.pc+1)));rw [hV2];exact h);have hkV2:Kept Q1 U V2:=by rw [hV2];exact (a_U _ _ _ (fun b hb=>by show b≠(w.heap.size+2);have:=HQ2.out.2.1 b hb;omega))
  have HB3s:=hid (show Below w.heap.size w V2 by rw [hV2];exact (HB3.out.setCell (p:=⟨(w.heap.size+2),0,none⟩) (by show _≤(w.heap.size+2);omega) _));have HZV2:=hid (show V2.heap.size=U.heap.size by rw [hV2];simp);have HV2:=hid hV2;clear hV2
  go_upto_region 28 with fail
  rw [←HV2.out];clear z0 f0 hp1 hp2 y0 z12
  have h0:Calls Tryz.prog 53 #[woV L D,.int .i64 j,thV (⟨t.pc+1,t.r,t.fs,t.st,t.ft,t.lf⟩:Thr) ta tn tc qa tm qc] V2 (b_D Q1 Y V2):=by
   have h:=c_U Q1 L X j (⟨t.pc+1,t.r,t.fs,t.st,t.ft,t.lf⟩:Thr) ta tc qa qc V2 (a_z hkV2 HR3.out) (by rw [show (⟨t.pc+1,t.r,t.fs,t.st,t.ft,t.lf⟩:Thr).fs.length=tn from HTN.out.1,show (⟨t.pc+1,t.r,t.fs,t.st,t.ft,t.lf⟩:Thr).lf.length=tm from HTN.out.2];exact d_c (a_v hkV2 HH3.out)) (fun b hb=>HQ2.out.2.2 b (by have:=HZV2.out;have:=HS3.out;omega)) HN.out;rw [show (⟨t.pc+1,t.r,t.fs,t.st,t.ft,t.lf⟩:Thr).fs.length=tn from HTN.out.1,show (⟨t.pc+1,t.r,t.fs,t.st,t.ft,t.lf⟩:Thr).lf.length=tm from HTN.out.2,show (X).D=D from HD.out,HYF.out] at h;exact h
  have HYD:=hid (show Y.D=D by rw [←HYF.out];exact HD.out);have HC:=hid h0;clear h0
  go_wp2_with (first | (refine wpList_load_mid rfl 33 _ rfl (w.heap.size) 0 rfl (woC L D) _ (a_f HX3s.out) Tryz.underlying33 rfl (by kernel_rfl) ?_) | (refine wpList_load_mid rfl 46 _ rfl (w.heap.size+2) 0 rfl (thC (⟨t.pc+1,t.r,t.fs,t.st,t.ft,t.lf⟩:Thr) ta tn tc qa tm qc) _ (a_f HT4s.out) Tryz.underlying46 rfl (by kernel_rfl) ?_))
  refine HC.out.mono ?_;rintro e9 w9 ⟨L9,rfl,R9,hb9⟩;have HZ9:=hid (a_h hb9 HZ3s.out);have HB9:=hid (a_a HB3s.out hb9);have HR9:=hid R9;clear hb9 R9 HC;rw [HYD.out]
  go_wp2_with (refine a_c rfl 33 _ _ rfl (w.heap.size+1) (woC L9 D).toArray rfl rfl _ HZ9.out rfl (by kernel_rfl) (b_p _ _) ?_;intro U HU)
  have HZ10:=hid (show a_p U (w.heap.size+1) (woC L9 D) by rw [HU.out];exact a_q HZ9.out rfl);refine a_X ⟨w.heap.size+1,0,none⟩ rfl rfl rfl (a_E HZ10.out 33 Tryz.underlying33 rfl (by kernel_rfl)) ?_;have hkU:Kept Q1 w9 U:=by rw [HU.out];exact a_u (fun b hb=>by have:=HQ2.out.2.1 b hb;omega)
  exact a_Z (L:=L9) (by rw [HYD.out]) (a_D HQ2.out.1 (a_z hkU HR9.out)) (by rw [HU.out];exact a_g (by omega) HB9.out)
 ):p:=h
theorem J5 {p:Prop} (h:p:=by
  obtain ⟨y1,-⟩:=HIV.out 1 _ rfl;obtain ⟨y2,-⟩:=HIV.out 2 _ rfl;obtain ⟨y3,-⟩:=HIV.out 3 _ rfl
  go_wp2_with fail
  refine HC.out.mono ?_;clear HC y0 y1 y2 y3;rintro e2 V2 ⟨(⟨hz,rfl,Q2,L2,hh⟩ | ⟨hz,rfl,Q2,L2,hh⟩),hb2⟩
  ·have HZE:=hid hz;have HH2:=hid hh;have HB2:=hid (HBN.out.trans hb2);clear hz hh hb2;obtain ⟨fa2,fc2,la2,lc2,-,ht2⟩:=c_4 HH2.out;obtain ⟨p0,pf⟩:=ht2 0 _ rfl;have p0:V2.cell? ⟨b,k*13,none⟩=some (.int .i64 (thW Z k).pc):=p0;have pf:V2.frozen? ⟨b,k*13,none⟩=false:=pf;obtain ⟨pc,hpc2⟩:∃ p,(thW Z k).pc=p:=⟨_,rfl⟩;rw [hpc2] at p0;have hwk:wrap64 (pc+1)=pc+1:=IntWalk.wrap64_in _ (by rw [←hpc2,HZT.out,HZP.out];have:=HPC.out;omega)
   have HHE:=hid (show Wk Q2 (V2.setCell ⟨b,k*13,none⟩ (.int .i64 (pc+1))) g b L2 (b_k Z k (b_j (thW Z k))) k from
    c_C HH2.out 0 (.int .i64 (pc+1)) (b_j (thW Z k)) (by decide) (fun fa fc la lc T=>⟨fa,fc,la,lc,by rw [←hpc2];rfl,⟨T.fcap,T.fs,T.lcap,T.lf⟩⟩))
   have HBE:=hid (show Bel Sx w (V2.setCell ⟨b,k*13,none⟩ (.int .i64 (pc+1))) from HB2.out.setCell (p:=⟨b,k*13,none⟩) HNN.out.2 _);clear ht2 hpc2
   go_wp2
   first | go_ret | go_end0
   refine ⟨.inl ⟨HZE.out,rfl,Q2,L2,?_⟩,HBE.out⟩;have HYE:=HHE;rw [←HY.out];exact HYE.out
  ·go_wp2
   exact And.intro rfl ⟨.inr ⟨hz,rfl,Q2,L2,hh⟩,HBN.out.trans hb2⟩
 ):p:=h
theorem J6 {p:Prop} (h:p:=by
  have HB1:=hid hb.1;clear hv hb HX HR HB HW;simp only [c_N,Act.put,List.setIfInBounds_toArray,List.set_cons_zero,List.set_cons_succ,e3];clear e3
  go_wp2
  refine a_m ⟨w.heap.size+1,0,none⟩ rfl rfl rfl (b_s _ _ z fa la fn fc ln lc (by have h:=HR1.out;rw [HZS.out] at h;exact h)) ?_;exact ⟨rfl,HB1.out⟩
 ):p:=h
theorem J7 {p:Prop} (h:p:=by
  obtain ⟨xs,hx,hn⟩:=C.base.2.2;refine a_i rfl (a_7 46 _ _ rfl (w.heap.size+1) zs.toArray (C.old _ rfl) e0 xs hx (by rw [List.size_toArray,HZN.out,hn]) HZI.out (by rw [HZA.out];exact a_L _ _ _ _ _ _ _) ?_);intro U HU;exact d_I hK (c_P HU hx hn HZN.out) (e_u HU C.base hx hn HZN.out)
 ):p:=h
theorem J8 {p:Prop} (h:p:=by
  have hf:kOk ((k:Int),a,b,c) m sg 2=false:=by rw [hv];simp [b_T];omega
  clear hv hoj;have HS:=hid (b_G (i:=((k:Int),a,b,c)) (m:=m) (k:=2) (by omega) (by rw [HOP.out];exact (hf)));clear hok hstep
  go_wp2_with fail
  refine (a_F ((k:Int),a,b,c) 2 _ (by omega)).mono ?_;rintro e w1 ⟨rfl,hb1⟩;rw [show e_c ((k:Int),a,b,c) 2=c from rfl];have HB2:=hid (a_a HB.out (a_a HBW.out hb1));clear hb1 HBW x0 x1 x2 x3
  go_wp2
  go_ret
  exact a_k HS.out HB2.out
 ):p:=h
theorem J9 {p:Prop} (h:p:=by
  have hf:kOk ((k:Int),a,b,c) m sg 1=false:=by rw [hv];simp [b_T];omega
  clear hv hoj;have HS:=hid (b_G (i:=((k:Int),a,b,c)) (m:=m) (k:=1) (by omega) (by rw [HOP.out];exact (hf)));clear hok hstep
  go_wp2_with fail
  refine (a_F ((k:Int),a,b,c) 1 _ (by omega)).mono ?_;rintro e w1 ⟨rfl,hb1⟩;rw [show e_c ((k:Int),a,b,c) 1=b from rfl];have HB2:=hid (a_a HB.out (a_a HBW.out hb1));clear hb1 HBW x0 x1 x2 x3
  go_wp2
  go_ret
  exact a_k HS.out HB2.out
 ):p:=h
theorem J10 {p:Prop} (h:p:=by
  have hf:kOk ((k:Int),a,b,c) m sg 0=false:=by rw [hv];simp [b_T];omega
  clear hv hoj;have HS:=hid (b_G (i:=((k:Int),a,b,c)) (m:=m) (k:=0) (by omega) (by rw [HOP.out];exact (hf)));clear hok hstep
  go_wp2_with fail
  refine (a_F ((k:Int),a,b,c) 0 _ (by omega)).mono ?_;rintro e w1 ⟨rfl,hb1⟩;rw [show e_c ((k:Int),a,b,c) 0=a from rfl];have HB2:=hid (a_a HB.out (a_a HBW.out hb1));clear hb1 HBW x0 x1 x2 x3
  go_wp2
  go_ret
  exact a_k HS.out HB2.out
 ):p:=h
theorem J11 {p:Prop} (h:p:=by
  have HHE:=hid (show Wk Q2 (V2.setCell ⟨b,k*13,none⟩ (.int .i64 (pc+1))) g b L2 (b_k Z k (b_j (thW Z k))) k from
   c_C HH2.out 0 (.int .i64 (pc+1)) (b_j (thW Z k)) (by decide) (fun fa fc la lc T=>⟨fa,fc,la,lc,by rw [←hpc2];rfl,⟨T.fcap,T.fs,T.lcap,T.lf⟩⟩))
  have HBE:=hid (show Bel Sx w (V2.setCell ⟨b,k*13,none⟩ (.int .i64 (pc+1))) from HB2.out.setCell (p:=⟨b,k*13,none⟩) HNN.out.2 _);clear ht2 hpc2
  go_wp2
  first | go_ret | go_end0
  refine ⟨.inl ⟨HZE.out,rfl,Q2,L2,?_⟩,HBE.out⟩;have HYE:=HHE;rw [←HY.out];exact HYE.out
 ):p:=h
theorem J12 {p:Prop} (h:p:=by
  have HB2:=hid (a_a HB.out (a_a HBW.out hb1));clear hb1 HBW x0 x1 x2 x3
  go_wp2
  go_ret
  exact a_k HS.out HB2.out
 ):p:=h
theorem J13 {p:Prop} (h:p:=by
  have e0:a1.eval (.tmp 5)=.agg cs.toArray:=got C 1 5 rfl rfl rfl rfl;have h0:=d_4 t self i fa la fn fc ln lc w1 Hb.out;rw [←HCA.out] at h0;refine a_i rfl (a_Q _ _ _ rfl 155 rfl [.agg cs.toArray] (by simp [e0]) (by kernel_rfl) (h0.mono ?_));rintro e w2 ⟨rfl,hb2⟩;exact ⟨_,rfl,c_A hK rfl rfl (b_X C.base hb2 HCN.out) (a_h hb2)⟩
 ):p:=h
theorem J14 {p:Prop} (h:p:=by
  have hbs:=C.base.size;have hA:Below w1.heap.size w1 (w1.alloc (Obj.cells #[.slice none 0 0,.slice none 0 0,.int .i64 0,.slice none 0 0] 30)):=(Below.refl _ _).alloc (Nat.le_refl _) _;refine a_i rfl (a_A (v:=.pointer (some ⟨w1.heap.size,0,none⟩)) (w':=(w1.alloc (Obj.cells #[.slice none 0 0,.slice none 0 0,.int .i64 0,.slice none 0 0] 30))) ?_ (hK _ _ ⟨w1.heap.size,rfl,hbs,[.slice none 0 0,.slice none 0 0,.int .i64 0,.slice none 0 0],a_e _ _ rfl,rfl⟩ (C.base.alloc hbs _) (fun j _ h=>hG j _ _ _ hA h) (fun _ h=>absurd rfl h) (fun e=>absurd e (by decide)) (fun _ _ hy=>?_) (fun e=>absurd e (by decide))))
  ·simp [execOp,go_sem]
  ·obtain ⟨a,n,c,a',n',c',q,l,d,h1,h0x,h1x,h2x⟩:=hy;exact ⟨a,n,c,a',n',c',q,l,d,w1.heap.size,List.head_eq_of_cons_eq h1,rfl,a_r (fun _ _ _ _ h=>a_t hA h) (a_n (fun b h=>⟨h.1,by have:=h.2;omega⟩) (c_j h0x)),a_r (fun _ _ _ _ h=>a_t hA h) (a_n (fun b h=>⟨h.1,by have:=h.2;omega⟩) (c_j h1x)),a_G (fun _ _ _ _ h=>a_t hA h) (a_H (fun b h=>⟨h.1,by have:=h.2;omega⟩) (f_x h2x))⟩
 ):p:=h
theorem J15 {p:Prop} (h:p:=by
  clear t0;have HR1:=hid (show a_p (W.drewN m) w.heap.size (inC (0,0,0,0)) from HR.out);have HB1:=hid (show Below w.heap.size w (W.drewN m) from below_drewN HB.out m)
  by_cases hlt:pc < L.co.n
  ·have HD:=hid (show d=true by rw [←HDD.out];exact decide_eq_true (by have:=HL.out;omega));obtain ⟨p,hp⟩:∃ p:Nat,pc=p:=⟨pc.toNat,by omega⟩;subst hp;obtain ⟨b2,o2,y,ha,hy,-,hat⟩:=j_a HH.out.co (i:=p) (by omega)
   have e:y=i:=by
    rw [←HI.out,inW,Int.toNat_natCast,List.getD_eq_getElem?_getD,hy];rfl
   subst e;obtain ⟨c0,c1,c2,c3⟩:=o_F hat;have c0:W.cell? ⟨b2,o2+p*4,none⟩=some (.int .i64 y.1):=c0;have c1:W.cell? ⟨b2,o2+p*4+1,none⟩=some (.int .i64 y.2.1):=c1;have c2:W.cell? ⟨b2,o2+p*4+2,none⟩=some (.int .i64 y.2.2.1):=c2;have c3:W.cell? ⟨b2,o2+p*4+3,none⟩=some (.int .i64 y.2.2.2):=c3;rw [ha] at x0;have i1:(0:Int)≤p:=by omega
   clear hat ha hy
   go_wp2_with (refine a_c rfl 66 _ _ rfl w.heap.size (inC y).toArray rfl rfl _ HR1.out rfl (by kernel_rfl) (by simp [Value.oneCell']) ?_;intro U HU)
   refine a_m ⟨w.heap.size,0,none⟩ rfl rfl rfl (a_E (show a_p U w.heap.size (inC y) by rw [HU.out];exact a_q HR1.out rfl) 66 Tryz.underlying66 rfl (by kernel_rfl)) ?_;rw [HD.out];exact ⟨rfl,by rw [HU.out];exact a_g (Nat.le_refl _) HB1.out⟩
  ·have HD:=hid (show d=false by rw [←HDD.out];exact decide_eq_false (by have:=HL.out;omega))
   have hz:i=(0,0,0,0):=by
    have:=HL.out;rw [←HI.out,inW,List.getD_eq_getElem?_getD,List.getElem?_eq_none (by omega)];rfl
   subst hz
   go_wp2_with (refine a_c rfl 66 _ _ rfl w.heap.size (inC (0,0,0,0)).toArray rfl rfl _ HR1.out rfl (by kernel_rfl) (by simp [Value.oneCell']) ?_;intro U HU)
   refine a_m ⟨w.heap.size,0,none⟩ rfl rfl rfl (a_E (show a_p U w.heap.size (inC (0,0,0,0)) by rw [HU.out];exact a_q HR1.out rfl) 66 Tryz.underlying66 rfl (by kernel_rfl)) ?_;rw [HD.out];exact ⟨rfl,by rw [HU.out];exact a_g (Nat.le_refl _) HB1.out⟩
 ):p:=h
theorem J16 {p:Prop} (h:p:=by
  have HR9:=hid R9;clear hb9 R9 HC;rw [HYD.out]
  go_wp2_with (refine a_c rfl 33 _ _ rfl (w.heap.size+2) (woC L9 D).toArray rfl rfl _ HZ9.out rfl (by kernel_rfl) (b_p _ _) ?_;intro U HU)
  have HZ10:=hid (show a_p U (w.heap.size+2) (woC L9 D) by rw [HU.out];exact a_q HZ9.out rfl);refine a_X ⟨w.heap.size+2,0,none⟩ rfl rfl rfl (a_E HZ10.out 33 Tryz.underlying33 rfl (by kernel_rfl)) ?_;have hkU:Kept Q1 w9 U:=by rw [HU.out];exact a_u (fun b hb=>by have:=HQ2.out.2.1 b hb;omega)
  exact a_Z (L:=L9) (by rw [HYD.out]) (a_D HQ2.out.1 (a_z hkU HR9.out)) (by rw [HU.out];exact a_g (by omega) HB9.out)
 ):p:=h
theorem J17 {p:Prop} (h:p:=by
  have HR9:=hid R9;clear hb9 R9 HC;rw [HYD.out]
  go_wp2_with (refine a_c rfl 33 _ _ rfl (w.heap.size+1) (woC L9 D).toArray rfl rfl _ HZ9.out rfl (by kernel_rfl) (b_p _ _) ?_;intro U HU)
  have HZ10:=hid (show a_p U (w.heap.size+1) (woC L9 D) by rw [HU.out];exact a_q HZ9.out rfl);refine a_X ⟨w.heap.size+1,0,none⟩ rfl rfl rfl (a_E HZ10.out 33 Tryz.underlying33 rfl (by kernel_rfl)) ?_;have hkU:Kept Q1 w9 U:=by rw [HU.out];exact a_u (fun b hb=>by have:=HQ2.out.2.1 b hb;omega)
  exact a_Z (L:=L9) (by rw [HYD.out]) (a_D HQ2.out.1 (a_z hkU HR9.out)) (by rw [HU.out];exact a_g (by omega) HB9.out)
 ):p:=h
theorem J18 {p:Prop} (h:p:=by
  show p (if pi=k then v else vals pi) (if pj=k then v else vals pj) w2
  by_cases e1:pi=k
  ·by_cases e2:pj=k
   ·rw [if_pos e1,if_pos e2];exact h7 e1.symm e2.symm
   ·rw [if_pos e1,if_neg e2];exact h5 e1.symm (fun h=>e2 h.symm) (hv _ l2 (a_b u2 e2)).2
  ·by_cases e2:pj=k
   ·rw [if_neg e1,if_pos e2];exact h6 e2.symm (fun h=>e1 h.symm) (hv _ l1 (a_b u1 e1)).2
   ·rw [if_neg e1,if_neg e2];exact h4 (fun h=>e1 h.symm) (fun h=>e2 h.symm) (hp l1 l2 (a_b u1 e1) (a_b u2 e2))
 ):p:=h
theorem J19 {p:Prop} (h:p:=by
  go_wp2_with (first | (refine wpList_load_mid rfl 46 _ rfl w.heap.size 0 rfl (thC z fa fn fc la ln lc) _ (a_f HX8.out) Tryz.underlying46 rfl (by kernel_rfl) ?_) | (refine a_c rfl 46 _ _ rfl (w.heap.size+2) (thC z fa fn fc la ln lc).toArray rfl rfl _ HR8.out rfl (by kernel_rfl) (a_L _ _ _ _ _ _ _) ?_;intro U HU))
  refine a_m ⟨w.heap.size+2,0,none⟩ rfl rfl rfl (a_T HU HR8.out rfl) ?_;refine b_i HZZ.out rfl ?_ (a_x HU (by omega) HB8.out);have h:=a_v (a_C (a_x HU (by omega) HB8.out)) HF0.out;exact ⟨h.fcap,by rw [HZF.out.1];exact h.fs,h.lcap,by rw [HZF.out.2];exact h.lf⟩
 ):p:=h
theorem J20 {p:Prop} (h:p:=by
  rw [hrt] at h0;have HC:=hid h0;have HRT:=hid hrt;clear h0 hrt
  go_wp2_with (refine wpList_load_mid rfl 46 _ rfl wo.heap.size 0 rfl (thC t ta tn tc qa tm qc) _ (a_f HT2.out) Tryz.underlying46 rfl (by kernel_rfl) ?_)
  refine HC.out.mono ?_;clear HC;rintro e5 w5 ⟨rfl,hb5⟩;have HB5:=hid (a_a HB4.out hb5);have HB5w:=hid (a_a HB2.out HB5.out);obtain ⟨y12,-⟩:=a_h hb5 HT2.out 12 _ rfl;obtain ⟨x5,-⟩:=a_h hb5 HX4.out 5 _ rfl;rw [HNL.out] at x5;have hwk:wrap64 ((k:Int)+1)=k+1:=IntWalk.wrap64_in _ (by have:=(a_S HM.out).2.1;have:=HBN.out;have:=HBL.out;have:=HNL.out;omega);clear hb5
  by_cases h0:tm=0
  ·have HO:=hid (f_b ho.out HTT.out (by simp only [e_o,HRT.out,Bool.true_and,decide_eq_true_eq];left;rw [HTM.out];exact h0));subst h0
   go_wp2_with fail
   go_roundw
   case rel=>exact ⟨k+1,by omega,by go_num,HO.out,HB5.out⟩
   case measure=>rw [hwk];simp only [intOf];omega
  ·have h1:(0:Int) < tm:=by omega
   by_cases h2:tm=n
   ·have HO:=hid (f_b ho.out HTT.out (by simp only [e_o,HRT.out,Bool.true_and,decide_eq_true_eq];right;rw [HTM.out];exact h2));subst h2
    go_wp2_with fail
    go_roundw
    case rel=>exact ⟨k+1,by omega,by go_num,HO.out,HB5.out⟩
    case measure=>rw [hwk];simp only [intOf];omega
   ·have h3:((tm:Int) != (n:Int))=true:=by simp;omega
    have HY:=hid (show a_6 X=false from c_Q (.inr (.inr (.inr ⟨t,List.mem_of_getElem? HTT.out,by
     simp only [e_o,HRT.out,Bool.true_and,decide_eq_false_iff_not];rw [HTM.out,HTN.out,HNL.out];omega⟩))))
    go_wp2_with fail
    go_ret
    exact a_k HY.out HB5w.out
 ):p:=h
theorem J21 {p:Prop} (h:p:=by
  show (c_N a0 l vals 0).tmps.getD t undef=a0.tmps.getD t undef
  rw [Array.getD_eq_getD_getElem?,Array.getD_eq_getD_getElem?,c_V t l vals a0 0 (fun hm=>by
   have:l.contains (some t)=true:=List.contains_iff_mem.2 hm;rw [this] at ht;cases ht)]
 ):p:=h
theorem J22 {p:Prop} (h:p:=by
  refine a_i rfl (a_A (v:=.int .i64 0) ?_ (a_K hK C rfl rfl));simp [execOp,go_sem,e0]
 ):p:=h
theorem J23 {p:Prop} (h:p:=by
  obtain ⟨y0,g0⟩:=HR1.out 0 _ rfl;obtain ⟨y1,g1⟩:=HR1.out 1 _ rfl;obtain ⟨y2,g2⟩:=HR1.out 2 _ rfl;obtain ⟨y3,g3⟩:=HR1.out 3 _ rfl;obtain ⟨y4,g4⟩:=HR1.out 4 _ rfl;obtain ⟨y5,g5⟩:=HR1.out 5 _ rfl;obtain ⟨y6,g6⟩:=HR1.out 6 _ rfl;obtain ⟨y7,g7⟩:=HR1.out 7 _ rfl;obtain ⟨y8,g8⟩:=HR1.out 8 _ rfl;obtain ⟨y9,g9⟩:=HR1.out 9 _ rfl;obtain ⟨y10,g10⟩:=HR1.out 10 _ rfl;obtain ⟨y11,g11⟩:=HR1.out 11 _ rfl;obtain ⟨y12,g12⟩:=HR1.out 12 _ rfl
  go_wp2
  refine a_m ⟨w.heap.size+1,0,none⟩ rfl rfl rfl (b_s _ _ d_z none none 0 0 0 0 (a_q (xs:=thN) HR1.out rfl)) ?_;exact b_0 (f_N (by rw [HE.out];decide)) HE.out (a_g (g:=w.heap.size+1) (xs:=thN) (k:=0) (by omega) HB1.out)
 ):p:=h
theorem J24 {p:Prop} (h:p:=by
  exact ⟨_,rfl,c_A hK rfl rfl (b_X C.base hb2 HCN.out) (a_h hb2)⟩
 ):p:=h
theorem J25 {p:Prop} (h:p:=by
  rintro e9 w2 ⟨a,n,c,a',n',c',q,l,d,rfl,h0x,h1x,h2x,hb2⟩;refine ⟨_,rfl,hK _ w2 ⟨a,n,c,a',n',c',q,l,d,rfl,a_n (fun _ h=>h.1) h0x,a_n (fun _ h=>h.1) h1x,a_H (fun _ h=>h.1) h2x⟩ (a_a C.base hb2) (fun j _ h=>hG j _ _ _ hb2 h) (fun h=>absurd rfl h) (fun _ _ hy=>?_) (fun e=>absurd e (by decide)) (fun _ e=>absurd e (by decide))⟩;obtain ⟨g,hg1,hg2,xs,hx,hx2⟩:=hy;have hlt:=a_N hx (by omega);exact ⟨a,n,c,a',n',c',q,l,d,g,rfl,List.head_eq_of_cons_eq hg1,a_n (fun b h=>⟨h.1,by have:=h.2;omega⟩) h0x,a_n (fun b h=>⟨h.1,by have:=h.2;omega⟩) h1x,a_H (fun b h=>⟨h.1,by have:=h.2;omega⟩) h2x⟩
 ):p:=h
theorem J26 {p:Prop} (h:p:=by
  go_wp2_with (refine a_c rfl 46 _ _ rfl (w.heap.size+1) (thC z fa fn fc la ln lc).toArray rfl rfl _ HR9.out rfl (by kernel_rfl) (a_L _ _ _ _ _ _ _) ?_;intro U HU)
  refine a_m ⟨w.heap.size+1,0,none⟩ rfl rfl rfl (a_T HU HR9.out rfl) ?_;exact ⟨rfl,a_x HU (by omega) HB9.out⟩
 ):p:=h
theorem J27 {p:Prop} (h:p:=by
  have HS:=hid (hstep hok.out (hf));clear hok hstep
  go_wp2_with fail
  refine (a_F ((k:Int),a,b,c) 2 _ (by omega)).mono ?_;rintro e w1 ⟨rfl,hb1⟩;rw [show e_c ((k:Int),a,b,c) 2=c from rfl];have HB2:=hid (a_a HBW.out hb1);clear hb1 HBW x0 x1 x2 x3
  go_wp2
  go_roundw
  case rel=>exact ⟨3,by omega,by go_num,HS.out,HB2.out⟩
  case measure=>simp [intOf]
 ):p:=h
theorem J28 {p:Prop} (h:p:=by
  have HS:=hid (hstep hok.out (hf));clear hok hstep
  go_wp2_with fail
  refine (a_F ((k:Int),a,b,c) 1 _ (by omega)).mono ?_;rintro e w1 ⟨rfl,hb1⟩;rw [show e_c ((k:Int),a,b,c) 1=b from rfl];have HB2:=hid (a_a HBW.out hb1);clear hb1 HBW x0 x1 x2 x3
  go_wp2
  go_roundw
  case rel=>exact ⟨2,by omega,by go_num,HS.out,HB2.out⟩
  case measure=>simp [intOf]
 ):p:=h
theorem J29 {p:Prop} (h:p:=by
  have HS:=hid (hstep hok.out (hf));clear hok hstep
  go_wp2_with fail
  refine (a_F ((k:Int),a,b,c) 0 _ (by omega)).mono ?_;rintro e w1 ⟨rfl,hb1⟩;rw [show e_c ((k:Int),a,b,c) 0=a from rfl];have HB2:=hid (a_a HBW.out hb1);clear hb1 HBW x0 x1 x2 x3
  go_wp2
  go_roundw
  case rel=>exact ⟨1,by omega,by go_num,HS.out,HB2.out⟩
  case measure=>simp [intOf]
 ):p:=h
theorem J30 {p:Prop} (h:p:=by
  go_wp2_with (refine wpList_load_mid rfl 33 _ rfl (w.heap.size) 0 rfl (woC L D) _ (a_f HX1.out) Tryz.underlying33 rfl (by kernel_rfl) ?_)
  refine HC.out.mono ?_;clear HC a0 a1;rintro e9 w9 ⟨L9,rfl,R9,hb9⟩;have HZ9:=hid (a_h hb9 HZ1.out);have HB9:=hid (a_a HB1.out hb9);have HR9:=hid R9;clear hb9 R9;rw [HDY.out]
  go_wp2_with (refine a_c rfl 33 _ _ rfl (w.heap.size+2) (woC L9 D).toArray rfl rfl _ HZ9.out rfl (by kernel_rfl) (b_p _ _) ?_;intro U HU)
  have HZ10:=hid (show a_p U (w.heap.size+2) (woC L9 D) by rw [HU.out];exact a_q HZ9.out rfl);refine a_X ⟨w.heap.size+2,0,none⟩ rfl rfl rfl (a_E HZ10.out 33 Tryz.underlying33 rfl (by kernel_rfl)) ?_;have hkU:Kept Q1 w9 U:=by rw [HU.out];exact a_u (fun b hb=>by have:=HQ2.out.2.1 b hb;omega)
  exact a_Z (L:=L9) (by rw [HDY.out]) (a_D HQ2.out.1 (a_z hkU HR9.out)) (by rw [HU.out];exact a_g (by omega) HB9.out)
 ):p:=h
theorem J31 {p:Prop} (h:p:=by
  go_wp2_with (refine a_c rfl 80 _ _ rfl (w.heap.size+1) woK.toArray rfl rfl _ HZ1.out rfl (by kernel_rfl) (by simp [Value.oneCell']) ?_;intro U HU)
  refine a_m ⟨w.heap.size+1,0,none⟩ rfl rfl rfl (a_E (show a_p U (w.heap.size+1) woK by rw [HU.out];exact a_q HZ1.out rfl) 80 Tryz.underlying80 rfl (by kernel_rfl)) ?_;exact ⟨by rw [HEV.out];rfl,by rw [HU.out];exact a_g (by omega) HB1.out⟩
 ):p:=h
theorem J32 {p:Prop} (h:p:=by
  have HEV:=hid (show E'=3 by
   have e2:=HE2.out;rw [←HSL.out] at e2;rw [←HE'.out,h_N,if_pos HRC.out,if_pos e2,if_neg];intro h;have h3:=List.all_eq_true.1 h (starts.getD k 0) (by rw [List.getD_eq_getElem?_getD,List.getElem?_eq_getElem hk2];exact List.getElem_mem hk2);rw [HSS.out,HCL.out] at h3;have:=of_decide_eq_true h3
   omega)
  go_wp2_with (refine a_c rfl 33 _ _ rfl (w.heap.size+1) woZ.toArray rfl rfl _ HZR.out rfl (by kernel_rfl) (by simp [Value.oneCell']) ?_;intro Z HZZ)
  refine a_m ⟨w.heap.size+1,0,none⟩ rfl rfl rfl (a_E (show a_p Z (w.heap.size+1) woZ by rw [HZZ.out];exact a_q HZR.out rfl) 33 Tryz.underlying33 rfl (by kernel_rfl)) ?_;rw [←HY.out];exact e_x HE'.out (by rw [HEV.out];decide) (by rw [HEV.out];rfl) (by rw [HZZ.out];exact a_g (by omega) HBR.out)
 ):p:=h
theorem J33 {p:Prop} (h:p:=by
  obtain ⟨g1,g2⟩:=hv j hjl (a_b hj e);refine ⟨fun i hi=>a_o (g1 i hi),?_⟩
  have hm:(a_V S j).map (fun i=>if i=k then v else vals i)=(a_V S j).map vals:=List.map_congr_left fun i hi=>by
   rw [if_neg];intro h5;subst h5;exact hu (g1 i hi)
  rw [hm];exact h3 j e g2
 ):p:=h
theorem J34 {p:Prop} (h:p:=by
  go_wp2
  refine a_m ⟨w.heap.size+1,0,none⟩ rfl rfl rfl (a_9 _ _ _ _ _ _ HR.out.1 HR.out.2.1 HR.out.2.2.1 HR.out.2.2.2) ?_;exact d_n (a_W (g:=w.heap.size+1) HB.out (by omega) _ _ _ _)
 ):p:=h
theorem J35 {p:Prop} (h:p:=by
  show (c_N a0 l vals 0).tmps.getD t undef=_
  rw [Array.getD_eq_getD_getElem?,c_9 t l vals a0 0 j hn hj ht,Nat.zero_add];rfl
 ):p:=h
theorem J36 {p:Prop} (h:p:=by
  have HX8:=hid (show a_p V w.heap.size (thC z fa fn fc la ln lc) by rw [←HZZ.out,HDK.out,hq];exact HX6.out)
  go_wp2_with (first | (refine wpList_load_mid rfl 46 _ rfl w.heap.size 0 rfl (thC z fa fn fc la ln lc) _ (a_f HX8.out) Tryz.underlying46 rfl (by kernel_rfl) ?_) | (refine a_c rfl 46 _ _ rfl (w.heap.size+2) (thC z fa fn fc la ln lc).toArray rfl rfl _ HR6.out rfl (by kernel_rfl) (a_L _ _ _ _ _ _ _) ?_;intro U HU))
  refine a_m ⟨w.heap.size+2,0,none⟩ rfl rfl rfl (a_T HU HR6.out rfl) ?_;refine b_i HZZ.out rfl ?_ (a_x HU (by omega) HB6.out);have h:=a_v (a_C (a_x HU (by omega) HB6.out)) HF0.out;exact ⟨h.fcap,by rw [HZF.out.1];exact h.fs,h.lcap,by rw [HZF.out.2];exact h.lf⟩
 ):p:=h
theorem J37 {p:Prop} (h:p:=by
  have hm:=List.contains_iff_mem.1 (List.all_eq_true.1 hD i hi)
  rcases List.mem_cons.1 hm with h8 | h8
  ·rw [h8];exact d_Z
  ·exact a_o (hall i h8)
 ):p:=h
theorem J38 {p:Prop} (h:p:=by
  obtain ⟨y0,g0⟩:=HR1.out 0 _ rfl;obtain ⟨y1,g1⟩:=HR1.out 1 _ rfl;obtain ⟨y2,g2⟩:=HR1.out 2 _ rfl;obtain ⟨y3,g3⟩:=HR1.out 3 _ rfl;obtain ⟨y4,g4⟩:=HR1.out 4 _ rfl;obtain ⟨y5,g5⟩:=HR1.out 5 _ rfl;obtain ⟨y6,g6⟩:=HR1.out 6 _ rfl;obtain ⟨y7,g7⟩:=HR1.out 7 _ rfl;obtain ⟨y8,g8⟩:=HR1.out 8 _ rfl;obtain ⟨y9,g9⟩:=HR1.out 9 _ rfl;obtain ⟨y10,g10⟩:=HR1.out 10 _ rfl;obtain ⟨y11,g11⟩:=HR1.out 11 _ rfl;obtain ⟨y12,g12⟩:=HR1.out 12 _ rfl
  go_wp2
  refine a_m ⟨w.heap.size+1,0,none⟩ rfl rfl rfl (b_s _ _ d_z none none 0 0 0 0 (a_q (xs:=thN) HR1.out rfl)) ?_;exact b_0 (i_A (by rw [HE.out];decide)) HE.out (a_g (g:=w.heap.size+1) (xs:=thN) (k:=0) (by omega) HB1.out)
 ):p:=h
theorem J39 {p:Prop} (h:p:=by
  refine a_i rfl (a_A (v:=.agg zs.toArray) ?_ (a_K hK C rfl rfl));simp [execOp,go_sem,e0]
 ):p:=h
theorem J40 {p:Prop} (h:p:=by
  go_enter Tryz.func153,Tryz.ntmps153
  go_wp2_with fail
  refine (c_m _ _ n c n' c' ws ts _ (slA _ (slA _ S1)) (slA _ (slA _ S2))).mono ?_;rintro e w1 ⟨rfl,hb⟩;have hb1:Below w.heap.size w w1:=a_a (by go_grown) hb;obtain ⟨hc,hf⟩:=g_I hb;have hs1:w.heap.size+1 < w1.heap.size:=by have:=hb.size;simp at this;omega
  have g3:w1.cell? ⟨w.heap.size+1,0,none⟩=some (.slice none 0 0):=by rw [hc _ _ (by simp)];simp
  have g4:w1.cell? ⟨w.heap.size+1,1,none⟩=some (.slice none 0 0):=by rw [hc _ _ (by simp)];simp
  rw [Hm.out]
  go_wp2
  refine a_m ⟨w.heap.size+1,0,none⟩ rfl rfl rfl (c_E _ _ _ _ (by go_cell_look) (by go_cell_look)) ?_;exact e_i (by go_grown)
 ):p:=h
theorem J41 {p:Prop} (h:p:=by
  have h1:=List.all_eq_true.1 hw i (List.mem_range.2 hi)
  rcases Bool.or_eq_true_iff.1 h1 with h2 | h2
  ·exact hu2 i (List.contains_iff_mem.1 h2)
  ·obtain ⟨j,hj,h3⟩:=List.any_eq_true.1 h2;simp only [Bool.and_eq_true] at h3;have hjn:j < n:=by simpa [Nat.blt_eq] using h3.1
   exact (hv j (by omega) (hu2 j hj)).1 i (List.contains_iff_mem.1 h3.2)
 ):p:=h
theorem J42 {p:Prop} (h:p:=by
  refine h0.mono ?_;clear h0;rintro e w1 ⟨fa1,fn1,fc1,la1,ln1,lc1,rfl,Q1,hb1⟩;have HQ:=hid Q1;have HB9:=hid (a_a HB.out hb1);have HR9:=hid (a_h hb1 HR.out);clear hb1 Q1 k0 k1
  go_wp2_with (refine a_c rfl 46 _ _ rfl (w.heap.size+2) (thC z fa1 fn1 fc1 la1 ln1 lc1).toArray rfl rfl _ HR9.out rfl (by kernel_rfl) (a_L _ _ _ _ _ _ _) ?_;intro U HU)
  refine a_m ⟨w.heap.size+2,0,none⟩ rfl rfl rfl (a_T HU HR9.out rfl) ?_;have hq:=a_v (w':=U) (by rw [HU.out];exact a_u (fun b hb=>by have:=HZ.out;rcases hb with hb | hb <;> omega)) HQ.out;exact b_i HZZ.out rfl (b_t (fun b hb=>hb.elim (fun h=>h.1) (fun h=>HQ0.out b (Nat.le_trans HB.out.size h))) hq) (a_x HU (by omega) HB9.out)
 ):p:=h
theorem J43 {p:Prop} (h:p:=by
  obtain ⟨y0,g0⟩:=HR.out 0 _ rfl;obtain ⟨y1,g1⟩:=HR.out 1 _ rfl;obtain ⟨y2,g2⟩:=HR.out 2 _ rfl;obtain ⟨y3,g3⟩:=HR.out 3 _ rfl;obtain ⟨y4,g4⟩:=HR.out 4 _ rfl;obtain ⟨y5,g5⟩:=HR.out 5 _ rfl;obtain ⟨y6,g6⟩:=HR.out 6 _ rfl;obtain ⟨y7,g7⟩:=HR.out 7 _ rfl;obtain ⟨y8,g8⟩:=HR.out 8 _ rfl;obtain ⟨y9,g9⟩:=HR.out 9 _ rfl;obtain ⟨y10,g10⟩:=HR.out 10 _ rfl;obtain ⟨y11,g11⟩:=HR.out 11 _ rfl;obtain ⟨y12,g12⟩:=HR.out 12 _ rfl
  go_wp2
  refine a_m ⟨w.heap.size+1,0,none⟩ rfl rfl rfl (b_s _ _ d_z none none 0 0 0 0 (a_q (xs:=thN) HR.out rfl)) ?_;exact i_u HT.out HE.out (a_g (g:=w.heap.size+1) (xs:=thN) (k:=0) (by omega) HB.out)
 ):p:=h
theorem J44 {p:Prop} (h:p:=by
  go_wp2_with (refine a_c rfl 46 _ _ rfl (w.heap.size+2) thN.toArray rfl rfl _ HR2.out rfl (by kernel_rfl) (a_L d_z none none 0 0 0 0) ?_;intro U HU)
  refine a_m ⟨w.heap.size+2,0,none⟩ rfl rfl rfl (a_T (t:=d_z) HU HR2.out rfl) ?_;exact b_0 (h_Z (by rw [HE.out];decide)) HE.out (a_x HU (by omega) HB2.out)
 ):p:=h
theorem J45 {p:Prop} (h:p:=by
  rcases (show j=0∨j=1∨j=2∨j=3∨j=4∨j=5∨j=6∨j=7 by omega) with rfl | rfl | rfl | rfl | rfl | rfl | rfl | rfl <;> rfl
 ):p:=h
theorem J46 {p:Prop} (h:p:=by
  cases hnw:c_b ps x with
  | some v =>
   have HN:=Lib.hid (And.intro (show c_x ps x=v by rw [c_x,hnw];rfl) (show c_w ps x=true by rw [c_w,hnw];rfl));have HW:=Lib.hid hnw;rw [HN.out.1,HN.out.2];clear hnw hb hp
   go_wp2
   go_ret2
   exact c_W (by rw [HV.out,HEV.out,if_pos rfl,HPS.out,HW.out];rfl) (by rw [HE.out,HEV.out]) HB3.out
  | none =>
   have HN:=Lib.hid (And.intro (show c_x ps x=0 by rw [c_x,hnw];rfl) (show c_w ps x=false by rw [c_w,hnw];rfl));have HW:=Lib.hid hnw;rw [HN.out.1,HN.out.2];clear hnw hb hp
   go_wp2
   go_ret2
   exact c_W (by rw [HV.out,HEV.out,if_pos rfl,HPS.out,HW.out,HLV.out];rfl) (by rw [HE.out,HEV.out]) HB3.out
 ):p:=h
theorem J47 {p:Prop} (h:p:=by
  obtain rfl:b.length=n:=hp.1;refine ⟨by simp [h.1],fun i hi=>?_⟩;rw [List.length_append,List.length_singleton] at hi
  by_cases e:i=bs.length
  ·subst e;refine ⟨q,c,?_,?_,?_⟩
   ·rw [List.getElem?_append_right (by rw [h.1];exact Nat.le_refl _),h.1];simp
   ·simpa using hc
   ·simpa using hp
  ·have hi':i < bs.length:=by omega
   obtain ⟨q',c',h1,h2,h3⟩:=h.2 i hi'
   have e2:(bs++[b]).getD i []=bs.getD i []:=by
    simp only [List.getD_eq_getElem?_getD];rw [List.getElem?_append_left hi']
   rw [e2];exact ⟨q',c',by rw [List.getElem?_append_left (by rw [h.1];exact hi')];exact h1,h2,h3⟩
 ):p:=h
theorem J48 {p:Prop} (h:p:=by
  exact a_i rfl (wp_load_mid 30 _ rfl (g) (1) ((a_P a1 _).symm.trans e0) [.slice L.ws.a L.ws.n L.ws.c,.slice L.ts.a L.ts.n L.ts.c,.int .i64 D,.slice L.bs.a L.bs.n L.bs.c] _ (p_W (a_h C.base HXD.out)) Tryz.underlying30 rfl (by kernel_rfl) (d_e hK C rfl rfl))
 ):p:=h
theorem J49 {p:Prop} (h:p:=by
  rw [hrt] at h0;have HC:=hid h0;have HY:=hid (show a_6 X=false from c_Q (.inr (.inr (.inr ⟨t,List.mem_of_getElem? HTT.out,by simp [e_o,hrt]⟩))));clear h0 hrt
  go_wp2_with (refine wpList_load_mid rfl 46 _ rfl wo.heap.size 0 rfl (thC t ta tn tc qa tm qc) _ (a_f HT2.out) Tryz.underlying46 rfl (by kernel_rfl) ?_)
  refine HC.out.mono ?_;clear HC;rintro e5 w5 ⟨rfl,hb5⟩;have HB5:=hid (a_a HB2.out (a_a HB4.out hb5));clear hb5
  go_wp2
  go_ret
  exact a_k HY.out HB5.out
 ):p:=h
theorem J50 {p:Prop} (h:p:=by
  clear hloc
  go_wp2_with fail
  refine HC.out.mono ?_;clear HC;rintro e2 V2 ⟨hh,hb2⟩
  rcases hh with ⟨hz,rfl,hx⟩ | ⟨hz,rfl,hx⟩
  ·have HX:=hid (show c_d g b Sx X Y k E w (.returned (.tuple #[])) V2 from ⟨.inl ⟨hz,rfl,hx⟩,HBNU.out.trans hb2⟩);clear hz hx hb2
   go_wp2
   first | go_ret | go_end0
   exact HX.out
  ·have HX:=hid (show c_d g b Sx X Y k E w (.panicked (l_V E)) V2 from ⟨.inr ⟨hz,rfl,hx⟩,HBNU.out.trans hb2⟩);clear hz hx hb2
   go_wp2
   exact And.intro rfl HX.out
 ):p:=h
theorem J51 {p:Prop} (h:p:=by
  go_wp2
  go_ret
  refine ⟨?_,(Below.refl _ _).alloc (Nat.le_refl _) _⟩;clear k0 k1
  rcases (show k=0∨k=1∨k=2∨k=3∨k=4∨k=5∨k=6∨k=7∨k=8∨k=9∨k=10∨k=11∨k=12∨k=13∨k=14∨k=15∨k=16∨k=17∨k=18∨k=19∨k=20∨k=21∨k=22∨k=23∨k=24∨k=25∨k=26 by omega) with rfl | rfl | rfl | rfl | rfl | rfl | rfl | rfl | rfl | rfl | rfl | rfl | rfl | rfl | rfl | rfl | rfl | rfl | rfl | rfl | rfl | rfl | rfl | rfl | rfl | rfl | rfl <;> rfl
 ):p:=h
theorem J52 {p:Prop} (h:p:=by
  cases hq:P.funcs[f]? with
  | none=>rw [hq] at hf;cases hf
  | some fn =>
   rw [hq] at hf;simp only [Option.map_some,Option.some.injEq,Prod.mk.injEq] at hf;have h1:¬ fn.name="runtime.NumGoroutine":=by simpa using hf.1
   have h2:¬ fn.body=none:=by have:=hf.2;cases hx:fn.body <;> simp_all
   have hv':args.map a.eval=vs.toArray:=Array.toList_inj.1 (by rw [Array.toList_map,hv]);unfold execOp;simp [ho,resolve,Deferred.ofValue,hx,invoke,callFunc,hq,h1,h2,hv']
 ):p:=h
theorem J53 {p:Prop} (h:p:=by
  have HL:=Lib.hid (show e_1 ps depth (x,y)=[] by rw [e_1,Hn.out,HE.out,if_neg (by decide)]);rw [HE.out]
  go_enter Tryz.func150,Tryz.ntmps150
  go_wp2
  go_ret2
  exact d_5 HL.out (by go_grown)
 ):p:=h
theorem J54 {p:Prop} (h:p:=by
  go_wp2_with (refine a_c rfl 46 _ _ rfl (w.heap.size+1) (thC z fa1 fn1 fc1 la1 ln1 lc1).toArray rfl rfl _ HR9.out rfl (by kernel_rfl) (a_L _ _ _ _ _ _ _) ?_;intro U HU)
  refine a_m ⟨w.heap.size+1,0,none⟩ rfl rfl rfl (a_T HU HR9.out rfl) ?_;have hq:=a_v (Q:=fun b=>w.heap.size+2≤b) (w':=U) (by rw [HU.out];exact a_u (fun b hb=>by omega)) HQ.out;exact e_k HN.out.1 HN.out.2 (b_t (fun b hb=>by omega) hq) (a_x HU (by omega) HB9.out)
 ):p:=h
theorem J55 {p:Prop} (h:p:=by
  rcases List.mem_append.1 hi with h5 | h5
  ·exact hu2 i h5
  ·obtain ⟨q,hq,hq2⟩:=List.mem_flatMap.1 h5;exact (hv q (hlt q hq) (hu2 q hq)).1 i hq2
 ):p:=h
theorem J56 {p:Prop} (h:p:=by
  go_enter Tryz.func125,Tryz.ntmps125
  go_wp2
  go_ret
  exact ⟨f_Y (by simp [b_7];omega),by go_grown⟩
 ):p:=h
theorem J57 {p:Prop} (h:p:=by
  rw [HM.out] at h0;unfold t_B at h0;refine h0.mono ?_;clear h0;rintro e w1 ⟨rfl,hb1⟩;have HB3:=hid (a_a HB2.out hb1);clear hb1 g0 g1 g2 g3
  cases mb with
  | true =>
   have HS:=hid (i_d hf.out HX.out HM.out)
   go_wp2
   go_roundw
   case rel=>exact ⟨k+1,by omega,by go_num,HS.out,HB3.out⟩
   case measure=>simp [intOf];omega
  | false =>
   have HS:=hid (j_1 Hn.out HX.out HM.out)
   go_wp2
   go_ret
   exact a_k HS.out HB3.out
 ):p:=h
theorem J58 {p:Prop} (h:p:=by
  by_cases e:m=k
  ·subst e
   rcases Bool.or_eq_true_iff.1 hkm with h1 | h1
   ·exact absurd h1 (by simp)
   ·have h2:=List.all_eq_true.1 h1 i hi
    rcases Bool.or_eq_true_iff.1 h2 with h3 | h3
    ·exact a_o (hu2 i (List.contains_iff_mem.1 h3))
    ·obtain ⟨j,hj,h4⟩:=List.any_eq_true.1 h3;exact a_o ((hv j (hlt j hj) (hu2 j hj)).1 i (by rw [hS];exact List.contains_iff_mem.1 h4))
  ·exact a_o (hI1 (a_b hum e) i hi)
 ):p:=h
theorem J59 {p:Prop} (h:p:=by
  go_wp2
  refine a_m ⟨w.heap.size+1,0,none⟩ rfl rfl rfl (c_E _ _ _ _ (by go_cell_look) (by go_cell_look)) ?_;exact e_i (by go_grown)
 ):p:=h
theorem J60 {p:Prop} (h:p:=by
  have ht:t < a0.tmps.size:=by simpa [Nat.blt_eq] using ht
  show (c_N a0 l vals 0).tmps.getD t undef=_
  rw [Array.getD_eq_getD_getElem?,c_9 t l vals a0 0 j (of_decide_eq_true hnd) hj ht,Nat.zero_add];rfl
 ):p:=h
theorem J61 {p:Prop} (h:p:=by
  obtain ⟨g1,g2⟩:=hv j hjl (a_b hj e);refine ⟨fun i hi=>a_o (g1 i (by rw [hS] at hi ⊢;exact hi)),?_⟩
  have hm:(a_V (S (cond (k==m) true bl)) j).map (fun i=>if i=k then v else vals i)=(a_V (S bl) j).map vals:=by
   rw [hS (cond (k==m) true bl),hS bl];refine List.map_congr_left fun i hi=>?_
   rw [if_neg];intro h5;subst h5;exact hu (g1 i (by rw [hS];exact hi))
  rw [hm];exact h3 j e g2
 ):p:=h
theorem J62 {p:Prop} (h:p:=by
  have h27:k=0∨k=1∨k=2∨k=3∨k=4∨k=5∨k=6∨k=7∨k=8∨k=9∨k=10∨k=11∨k=12∨k=13∨k=14∨k=15∨k=16∨k=17∨k=18∨k=19∨k=20∨k=21∨k=22∨k=23∨k=24∨k=25∨k=26:=by omega
  rcases h27 with rfl | rfl | rfl | rfl | rfl | rfl | rfl | rfl | rfl | rfl | rfl | rfl | rfl | rfl | rfl | rfl | rfl | rfl | rfl | rfl | rfl | rfl | rfl | rfl | rfl | rfl | rfl <;> rfl
 ):p:=h
theorem J63 {p:Prop} (h:p:=by
  go_wp2_with (go_at_call 12;refine (d_s wa ta mw wk mt tc (ws.take 170) (ts.take 170) _ (slB (HB2.out.trans (HBX.out.mono HB2.out.size)) HWS.out) (slB (HB2.out.trans (HBX.out.mono HB2.out.size)) HTS.out)).mono ?_;rw [HR1.out];rintro e wy ⟨rfl,hby⟩;have HBY:=hid (a_a HBX.out hby);clear hby)
  go_meet
  exact ⟨by rw [HOE.out];rfl,HBY.out⟩
 ):p:=h
theorem J64 {p:Prop} (h:p:=by
  rintro e9 w2 ⟨a,c,rfl,hcap,-,hvs,hb2⟩;have hs1:=hb1.size;have hs2:=HHI.out;refine ⟨_,rfl,hK _ w2 ⟨a,c,rfl,hcap,b_e (fun b hb=>by omega) hvs⟩ ⟨fun h=>a_a (C.base.1 h) hb2,C.base.2.andB hb2⟩ (fun j _ h=>hG j _ _ _ hb2 h) (fun _ _ h=>h) (fun e=>absurd e (by decide)) (fun e=>absurd e (by decide)) (fun e=>absurd e (by decide))⟩
 ):p:=h
theorem J65 {p:Prop} (h:p:=by
  obtain ⟨x5,-⟩:=H.x 5 _ rfl;obtain ⟨x7,-⟩:=H.x 7 _ rfl;rw [H.hb] at x5;have i1:(0:Int)≤k:=by omega
  have i2:(k:Int) < L.th.n:=by have:=H.hk;have:=H.hn;omega
  clear H
  go_enter Tryz.func78,Tryz.ntmps78
  go_upto_region 1 with fail
  go_quiet (fail)
  go_wp2
  go_ret
  exact ⟨rfl,_,rfl⟩
 ):p:=h
theorem J66 {p:Prop} (h:p:=by
  have HZZ:=hid hz2;clear hz hz2
  go_wp2_with (refine a_c rfl 46 _ _ rfl (w.heap.size+1) (thC z fa fn fc la ln lc).toArray rfl rfl _ HR3.out rfl (by kernel_rfl) (a_L _ _ _ _ _ _ _) ?_;intro U HU)
  refine a_m ⟨w.heap.size+1,0,none⟩ rfl rfl rfl (a_T HU HR3.out rfl) ?_;rw [HZZ.out];exact ⟨rfl,a_x HU (by omega) HB1.out⟩
 ):p:=h
theorem J67 {p:Prop} (h:p:=by
  go_wp2
  go_ret
  exact ⟨none,0,rfl,b_W,World.ownsRow_nil _ _ _ _,Below.refl _ _⟩
 ):p:=h
theorem J68 {p:Prop} (h:p:=by
  go_wp2_with (refine a_c rfl 46 _ _ rfl (w.heap.size+2) thN.toArray rfl rfl _ HR1.out rfl (by kernel_rfl) (a_L d_z none none 0 0 0 0) ?_;intro U HU)
  refine a_m ⟨w.heap.size+2,0,none⟩ rfl rfl rfl (a_T (t:=d_z) HU HR1.out rfl) ?_;exact b_0 (h_Z (by rw [HE.out];decide)) HE.out (a_x HU (by omega) HB1.out)
 ):p:=h
theorem J69 {p:Prop} (h:p:=by
  go_wp2_with fail
  go_roundw
  case rel=>exact ⟨j+1,L2,Z2,vs2,hlt,by go_num,HI6.out,HN13.out,HR13.out,HV13.out,HB13.out,HVL2.out⟩
  case measure=>exact d_E hlt
 ):p:=h
theorem J70 {p:Prop} (h:p:=by
  rw [hm] at h0;have HC:=hid h0;have HY:=hid (show a_6 X=false from c_Q (.inr (.inl (by rw [HD.out];exact hm))));clear h0 hm
  go_wp2_with fail
  refine HC.out.mono ?_;clear HC x1 x2 x3 x4 x5;rintro e2 w2 ⟨rfl,hb2⟩;have HB2:=hid (a_a HB1.out hb2);clear hb2
  go_wp2
  go_ret
  exact a_k HY.out HB2.out
 ):p:=h
theorem J71 {p:Prop} (h:p:=by
  rcases h.2 with ⟨rfl,rfl⟩ | ⟨g,cap,cur,rfl,_⟩
  ·exact ⟨_,_,rfl⟩
  ·exact ⟨_,_,rfl⟩
 ):p:=h
theorem J72 {p:Prop} (h:p:=by
  rw [hb] at hf;clear hb hok hstep
  go_wp2_with fail
  refine (hf _).mono ?_;rintro e w' ⟨rfl,h⟩
  cases h
  go_wp2
  go_ret
  exact a_k HS.out HB.out
 ):p:=h
theorem J73 {p:Prop} (h:p:=by
  exact a_H (fun b h=>h.1) (a_G (a_1 (p:=⟨w.heap.size+1,3,none⟩) (fun b h=>h.2.2)) (a_G (a_1 (p:=⟨w.heap.size+1,2,none⟩) (fun b h=>h.2.2)) (a_G (a_1 (p:=⟨w.heap.size+1,1,none⟩) (fun b h=>h.2.2)) (a_G (a_1 (p:=⟨w.heap.size+1,0,none⟩) (fun b h=>h.2.2)) U5.out))))
 ):p:=h
theorem J74 {p:Prop} (h:p:=by
  go_enter Tryz.func108,Tryz.ntmps108
  go_wp2
  go_returns
  exact e_z Hm.out (by simp) (by go_grown)
 ):p:=h
theorem J75 {p:Prop} (h:p:=by
  go_enter Tryz.func12,Tryz.ntmps12
  go_wp2
  go_ret
  exact c_y Hm.out (by go_grown)
 ):p:=h
theorem J76 {p:Prop} (h:p:=by
  refine .inr ⟨_,rfl,And.intro hdf ?_⟩;exact ⟨.inr ⟨hz,rfl,Q,L,d_y (a_a C.base hb2) HHV.out⟩,HBN.out.andB (a_a C.base hb2)⟩
 ):p:=h
theorem J77 {p:Prop} (h:p:=by
  have e0:a1.tmps[8]?.getD undef=.pointer (some ⟨w.heap.size,17,none⟩):=d_2 C 4 8 rfl rfl rfl rfl;have kc:=(C.base.2.1 17 (.int .i64 i.2.2.2) (by rw [HCS.out];rfl)).1;refine a_i rfl (a_A (v:=.int .i64 i.2.2.2) ?_ (a_K hK C rfl rfl));simp [execOp,go_sem,e0,kc]
 ):p:=h
theorem J78 {p:Prop} (h:p:=by
  rw [hrc] at h0;have HC:=hid h0;have HY:=hid (show a_6 X=false from c_Q (.inl hrc));clear h0 hrc
  go_wp2_with fail
  refine HC.out.mono ?_;clear HC x0;rintro e1 w1 ⟨rfl,hb1⟩;have HB1:=hid (a_a HB.out hb1);clear hb1
  go_wp2
  go_ret
  exact a_k HY.out HB1.out
 ):p:=h
theorem J79 {p:Prop} (h:p:=by
  exact a_i rfl (wp_load_mid 26 _ rfl (g) (1) ((a_P a1 _).symm.trans e0) [.slice L.ws.a L.ws.n L.ws.c,.slice L.ts.a L.ts.n L.ts.c] _ (s_k (a_h C.base HH2.out.x)) Tryz.underlying26 rfl (by kernel_rfl) (d_e hK C rfl rfl))
 ):p:=h
theorem J80 {p:Prop} (h:p:=by
  go_wp2_with fail
  refine HC.out.mono ?_;rintro e4 w4 ⟨rfl,hb4⟩
  go_wp2
  go_ret
  exact ⟨rfl,a_a HBW.out hb4⟩
 ):p:=h
theorem J81 {p:Prop} (h:p:=by
  rintro e9 w2 ⟨rfl,hb2⟩;exact ⟨_,rfl,p_p hK hG (fun _ _ _ _ _ _=>trivial) hb2 rfl rfl (a_a C.base hb2)⟩
 ):p:=h
theorem J82 {p:Prop} (h:p:=by
  go_wp2
  go_ret
  exact a_k HF.out (HB1.out.trans (HB.out.mono HB1.out.size))
 ):p:=h
theorem J83 {p:Prop} (h:p:=by
  go_wp2
  refine b_P ⟨w.heap.size+1,0,none⟩ rfl rfl rfl (a_9 _ _ _ _ _ _ HZ.out.1.1 HZ.out.1.2.1 HZ.out.1.2.2.1 HZ.out.1.2.2.2) ?_;rw [HES.out];exact i_L (by decide) (a_W (g:=w.heap.size+1) HB1.out (by omega) _ _ _ _)
 ):p:=h
theorem J84 {p:Prop} (h:p:=by
  refine a_i rfl (a_A (v:=.pointer (some ⟨w.heap.size,14,none⟩)) ?_ (a_K hK C rfl rfl));have e0:a1.tmps[1]?.getD undef=.pointer (some ⟨w.heap.size,0,none⟩):=(a_P a1 1).trans (C.old 1 rfl);simp [execOp,go_sem,e0]
 ):p:=h
theorem J85 {p:Prop} (h:p:=by
  have hne:((L.th.n:Int) != (L.bs.n:Int))=true:=by simp;omega
  have HY:=hid (show a_6 X=false from c_Q (.inr (.inr (.inl (by rw [HTN.out,HBN.out];exact hl)))));clear hl
  go_wp2_with fail
  go_ret
  exact a_k HY.out HB2.out
 ):p:=h
theorem J86 {p:Prop} (h:p:=by
  have e0:a1.tmps[7]?.getD undef=.pointer (some ⟨w.heap.size,14,none⟩):=d_2 C 3 7 rfl rfl rfl rfl;refine a_i rfl (a_A (v:=.pointer (some ⟨w.heap.size,17,none⟩)) ?_ (a_K hK C rfl rfl));simp [execOp,go_sem,e0]
 ):p:=h
theorem J87 {p:Prop} (h:p:=by
  go_upto_region 1 with fail
  rw [←HW.out]
  go_wp2
  exact And.intro rfl ⟨.inr ⟨HX0.out,rfl⟩,HB.out⟩
 ):p:=h
theorem J88 {p:Prop} (h:p:=by
  refine a_i rfl (a_A (v:=.pointer (some ⟨g,1,none⟩)) ?_ (d_e hK C rfl rfl));simp [execOp,go_sem,e0]
 ):p:=h
theorem J89 {p:Prop} (h:p:=by
  refine a_i rfl (a_A (v:=.pointer (some ⟨g,0,none⟩)) ?_ (d_e hK C rfl rfl));simp [execOp,go_sem,e0]
 ):p:=h
theorem J90 {p:Prop} (h:p:=by
  obtain rfl:k=n:=by omega
  have HY:=hid (show a_6 X=true from i_j HRC.out HM.out (by have:=HTN.out;have:=HBN.out;have:=HBL.out;omega) (HTN.out.trans HNL.out) ho.out)
  go_wp2
  go_ret
  exact a_k HY.out HB3.out
 ):p:=h
theorem J91 {p:Prop} (h:p:=by
  rw [h2] at e0;refine a_i rfl (a_A (v:=.int .i64 se) ?_ (d_e hK C rfl (rfl)));simp [execOp,go_sem,e0]
 ):p:=h
theorem J92 {p:Prop} (h:p:=by
  clear h17
  go_wp2_with fail
  go_ret
  exact a_k HYW.out.symm HBU.out
 ):p:=h
theorem J93 {p:Prop} (h:p:=by
  clear hm hn hn' z0 z1 z2
  go_enter Tryz.func51,Tryz.ntmps51
  go_wp2
  go_ret2
  exact ⟨h_t HV.out.symm HE.out.symm,by go_grown⟩
 ):p:=h
theorem J94 {p:Prop} (h:p:=by
  go_upto_region 1 with fail
  rw [←HW.out]
  go_wp2
  go_ret
  exact g_g HE.out HB.out
 ):p:=h
theorem J95 {p:Prop} (h:p:=by
  go_wp2
  all_goals
   go_ret
   refine c_T ?_;rw [Bool.eq_iff_iff];simp
   try omega
 ):p:=h
theorem J96 {p:Prop} (h:p:=by
  go_enter Tryz.func107,Tryz.ntmps107
  go_wp2
  all_goals
   go_ret
   refine c_T ?_;rw [Bool.eq_iff_iff];simp [b_T]
   try omega
 ):p:=h
theorem J97 {p:Prop} (h:p:=by
  simp [Instr.index,run_underlying Tryz.underlying151,asIntOf,go_sem]
 ):p:=h
theorem J98 {p:Prop} (h:p:=by
  rintro e w1 ⟨rfl,hb⟩;rw [HM.out];have HB:=Lib.hid (a_a (by go_grown) hb:Below w.heap.size w w1);clear hb
  go_wp2
  go_ret
  exact a_k HT.out HB.out
 ):p:=h
theorem J99 {p:Prop} (h:p:=by
  go_wp2
  refine a_m ⟨w.heap.size+1,0,none⟩ rfl rfl rfl (a_9 _ _ _ _ _ _ H4.out.1.1 H4.out.1.2.1 H4.out.1.2.2.1 H4.out.1.2.2.2) ?_;exact HZ.out
 ):p:=h
theorem J100 {p:Prop} (h:p:=by
  clear h
  go_enter Tryz.func169,Tryz.ntmps169
  go_wp2
  go_ret
  exact e_9 HV.out (Below.refl _ _)
 ):p:=h
theorem J101 {p:Prop} (h:p:=by
  go_enter Tryz.func21,Tryz.ntmps21
  go_wp2
  go_ret
  exact a_k (by simp;omega) (by go_grown)
 ):p:=h
theorem J102 {p:Prop} (h:p:=by
  simp only [a_R,Bool.and_eq_true,decide_eq_true_eq] at h;exact h.1.1.1
 ):p:=h
theorem J103 {p:Prop} (h:p:=by
  simp only [brF,Bool.and_eq_true,f_r,decide_eq_true_eq] at h;have h1:=HI5.out.len;have h2:=HVL.out;exact ⟨a2.toNat,by omega,by omega⟩
 ):p:=h
theorem J104 {p:Prop} (h:p:=by
  have h:=c_Z Q1 L X j se w1 HRE.out hj (fun b hb=>HQ2.out.2.2 b (by have:=HSE.out;omega)) HN.out;rw [HTW.out,HD.out,HYF.out] at h;exact h
 ):p:=h
theorem J105 {p:Prop} (h:p:=by
  intro i hi
  by_cases e:i=k
  ·subst e;exact h1
  ·exact h i (by omega)
 ):p:=h
theorem J106 {p:Prop} (h:p:=by
  clear hin
  go_wp2
  go_ret
  exact a_k HF.out (HB1.out.trans ((HB.out.trans ((HBI.out.alloc hszi _).mono HB.out.size)).mono HB1.out.size))
 ):p:=h
theorem J107 {p:Prop} (h:p:=by
  rcases h.2 with h | ⟨b,o,h,_⟩
  ·exact h
  ·rw [e] at h;cases h
 ):p:=h
theorem J108 {p:Prop} (h:p:=by
  rw [inW,List.getD_eq_getElem?_getD,List.getElem?_eq_getElem (show pc.toNat < X.code.length by omega)];exact List.getElem_mem _
 ):p:=h
theorem J109 {p:Prop} (h:p:=by
  refine ⟨by omega,fun f hf=>?_⟩;obtain ⟨i,hi,rfl⟩:=List.mem_iff_getElem.1 hf;exact h i _ (by omega) (by simp [hi])
 ):p:=h
theorem J110 {p:Prop} (h:p:=by
  have e0:=C.o 5 (.slice aa an ac);refine a_i rfl (a_A (v:=.slice aa an ac) ?_ (f_n hK C rfl rfl));simp [execOp,go_sem,e0]
 ):p:=h
theorem J111 {p:Prop} (h:p:=by
  exact ⟨_,_,_,_,_,_,_,_,_,rfl,d_a _ _,d_a _ _,g_4 _ _,hb⟩
 ):p:=h
theorem J112 {p:Prop} (h:p:=by
  obtain ⟨cs,h1,h2⟩:=H.ev;have h3:=b_f h2;have h4:cs.length=L.ev.n*6:=h1.1;have h5:repEv.k=6:=rfl;rw [h5] at h3
  omega
 ):p:=h
theorem J113 {p:Prop} (h:p:=by
  go_wp2
  first | go_ret | go_end0
  refine ⟨.inl ⟨rfl,rfl,Q,L,?_⟩,HBE.out⟩;rw [←HY.out,←HTT.out];exact HHE.out
 ):p:=h
theorem J114 {p:Prop} (h:p:=by
  refine a_i rfl (a_A (v:=.pointer (some ⟨bt,k2*13+12,none⟩)) ?_ (d_e hK C rfl rfl));simp [execOp,go_sem,e0]
 ):p:=h
theorem N0 {p:Prop} (h:p:=by exact (show a_p V w.heap.size [.int .i64 (t.pc+1),.int .i64 (t.r 0),.int .i64 (t.r 1),.int .i64 (t.r 2),.int .i64 (t.r 3),.int .i64 (t.r 4),.int .i64 (t.r 5),.int .i64 (t.r 6),.int .i64 (t.r 7),.slice fa fn fc,.int .i64 t.st,.int .i64 t.ft,.slice la ln lc] by rw [hV];exact a_y X5 0 (by simp) _)):p:=h
theorem N1 {p:Prop} (h:p:=by exact Lib.hid (cj hf0<|cj hC<|cj hf2<|cj hf3<|cj hf4<|cj hf5<|cj hf6<|cj hf7<|cj hf8<|cj hf9<|cj hf10<|cj hf11<|cj hS<|cj hf13<|cj hW13<|cj hf14<|cj hW14<|cj hf15<|cj hA<|cj hT<|cj hf18<|cj hb<|hw)):p:=h
theorem N2 {p:Prop} (h:p:=by exact (show Below w.heap.size w W by rw [hW];go_grown)):p:=h
theorem N3 {p:Prop} (h:p:=by exact hid (show Below w.heap.size w W by rw [hW];go_grown)):p:=h
theorem N4 {p:Prop} (h:p:=by exact (show a_p W w.heap.size (thC t fa fn fc la ln lc) by rw [hW];exact a_s _ (a_s _ (a_e (thC t fa fn fc la ln lc) _ rfl)))):p:=h
theorem N5 {p:Prop} (h:p:=by exact hid (cj hf0<|cj hf1<|cj hf2<|cj hf3<|cj hf4<|cj hf5<|cj hf6<|cj hf7<|cj hf8<|cj hN<|cj hA<|cj hf11<|cj hT<|cj hb<|hw)):p:=h
theorem N6 {p:Prop} (h:p:=by exact (show Below w.heap.size w w1 from a_a (by go_grown) hb)):p:=h
theorem N7 {p:Prop} (h:p:=by exact hid (show a_p U8 w.heap.size (thC z fa fn fc la ln lc) by rw [HU8.out,←HZS.out];exact b_c (xs:=(rgC s)) 1 HX7.out (by simp))):p:=h
theorem N8 {p:Prop} (h:p:=by exact (show Kept Q1 w9 U by rw [HU.out];exact a_u (fun b hb=>by have:=HQ2.out.2.1 b hb;omega))):p:=h
theorem N9 {p:Prop} (h:p:=by exact (show a_p U W.heap.size (rgC t.r) by rw [hU];exact a_q (xs:=(rgC t.r)) (a_e rgZ W.heap.size rfl) rfl)):p:=h
theorem N10 {p:Prop} (h:p:=by exact (show Below w.heap.size w V by rw [hV];exact B5.setCell (p:=⟨w.heap.size,0,none⟩) (Nat.le_refl _) _)):p:=h
theorem N11 {p:Prop} (h:p:=by exact (show a_p U w.heap.size (thC t fa fn fc la ln lc) by rw [hU];exact a_j (by omega) (a_s _ HX.out))):p:=h
theorem N12 {p:Prop} (h:p:=by exact (show Below w.heap.size w U by rw [hU];exact a_g (by omega) (HB.out.alloc HB.out.size _))):p:=h
theorem N13 {p:Prop} (h:p:=by exact (show a_p W (w.heap.size+2) thN by rw [hW];exact a_e thN _ (by simp))):p:=h
theorem N14 {p:Prop} (h:p:=by exact (show a_p W (w.heap.size+1) thN by rw [hW];exact a_e thN _ (by simp))):p:=h
theorem N15 {p:Prop} (h:p:=by exact hid (show Below W.heap.size W V by rw [hm];exact below_drewN (Below.refl _ _) m)):p:=h
theorem N16 {p:Prop} (h:p:=by exact (show a_p U (w.heap.size+2) thN by rw [hU];exact a_j (by omega) (a_s _ HR.out))):p:=h
theorem N17 {p:Prop} (h:p:=by exact hid (show (Tryz.prog.info? 46).map (·.size)=some zs.toArray.size by rw [hzs];kernel_rfl)):p:=h
theorem N18 {p:Prop} (h:p:=by exact (show a_p W w.heap.size (tkC t fa fn fc la ln lc self i) by rw [hW];exact a_s _ (a_e (tkC t fa fn fc la ln lc self i) _ rfl))):p:=h
theorem N19 {p:Prop} (h:p:=by exact hid (cj hf0<|cj hf1<|cj hf2<|cj hC<|cj hf4<|cj hf5<|cj hf6<|cj hW6<|cj hD<|cj hf8<|cj hW8<|cj hf9<|cj hS<|cj hf11<|cj hb<|hw)):p:=h
theorem N20 {p:Prop} (h:p:=by exact (show a_p V W.heap.size (rgC t.r) by rw [hV];exact a_l A5 (by omega) _)):p:=h
theorem N21 {p:Prop} (h:p:=by exact hid (show a_p W w.heap.size (inC (op,ra,rb,rc)) by rw [hW];exact a_e _ _ rfl)):p:=h
theorem N22 {p:Prop} (h:p:=by exact hid (show (Tryz.prog.info? 168).map (·.size)=some cs.length by rw [hcs];kernel_rfl)):p:=h
theorem N23 {p:Prop} (h:p:=by exact (show a_p V (w.heap.size+2) thN by rw [hV];exact a_l R5 (by omega) _)):p:=h
theorem N24 {p:Prop} (h:p:=by exact hid (show Below w.heap.size w U8 by rw [HU8.out];exact a_g (Nat.le_refl _) HB7.out)):p:=h
theorem N25 {p:Prop} (h:p:=by exact hid (show a_p U8 (w.heap.size+2) thN by rw [HU8.out];exact a_j (by omega) HR7.out)):p:=h
theorem N26 {p:Prop} (h:p:=by exact hid (show a_p U (w.heap.size+1) (woC L9 D) by rw [HU.out];exact a_q HZ9.out rfl)):p:=h
theorem N27 {p:Prop} (h:p:=by exact hid (show Below w.heap.size w V by rw [HV.out];exact a_g (by have:=HSZ.out;omega) (HB.out.alloc HB.out.size _))):p:=h
theorem N28 {p:Prop} (h:p:=by exact hid (show W.rangeAt tb (tq+j*13) (thC t ta tn tc qa tm qc) from fun x v hx=>a_t HB.out (hr x v (by rw [htn,htm];exact hx)))):p:=h
theorem N29 {p:Prop} (h:p:=by exact Lib.hid (b_A R (.slice none 0 0) (.slice none 0 0) (.int .i64 0) (.slice none 0 0))):p:=h
theorem N30 {p:Prop} (h:p:=by exact hid (show (∀ b,Q1 b→Q b)∧(∀ b,Q1 b→b < w.heap.size∨w.heap.size+3≤b)∧(∀ b,w.heap.size+3≤b→Q1 b) by rw [hQ1];exact ⟨fun b h=>h.1,fun b h=>h.2,fun b h=>⟨hQ b (by omega),.inr h⟩⟩)):p:=h
theorem N31 {p:Prop} (h:p:=by exact hid (show a_p V w.heap.size (woC L D) by rw [HV.out];exact a_j (by have:=HSZ.out;omega) (a_s _ HX.out))):p:=h
theorem N32 {p:Prop} (h:p:=by exact (show W.heap.size=w.heap.size+3 by rw [hW];simp)):p:=h
theorem N33 {p:Prop} (h:p:=by exact (show ThF W fa fn fc la ln lc t from d_b hB F.f)):p:=h
theorem N34 {p:Prop} (h:p:=by exact hid (show zs.toArray=(thC z fa fn fc la ln lc).toArray by rw [hzs])):p:=h
theorem N35 {p:Prop} (h:p:=by exact hid (show z.fs=t.fs∧z.lf=t.lf by rw [←hz];exact ⟨rfl,rfl⟩)):p:=h
theorem N36 {p:Prop} (h:p:=by exact hid (show ThQ Q1 w ta t.fs.length tc qa t.lf.length qc t by rw [hQ1];exact b_t (fun b h=>⟨h.1,.inl h.2⟩) (d_w T))):p:=h
theorem N37 {p:Prop} (h:p:=by exact (show vals 31=.tuple #[.agg #[.slice a n c,.slice a' n' c',.int .i64 sD,.slice q l d],.int .i64 lv,.int .i64 se] from List.head_eq_of_cons_eq (List.tail_eq_of_cons_eq h1))):p:=h
theorem N38 {p:Prop} (h:p:=by exact (show vals 15=.tuple #[.agg #[.slice a n c,.slice a' n' c',.int .i64 sD,.slice q l d],.int .i64 lv,.int .i64 se] from List.head_eq_of_cons_eq (List.tail_eq_of_cons_eq h1))):p:=h
theorem N39 {p:Prop} (h:p:=by exact (show a1.eval (.tmp 4)=.agg cs.toArray from got C 0 4 rfl rfl rfl rfl)):p:=h
theorem N40 {p:Prop} (h:p:=by exact (show (⟨t.pc+1,s,t.fs,t.st,t.ft,t.lf⟩:Thr)=z by rw [←HZZ.out,←hs];rfl)):p:=h
theorem N41 {p:Prop} (h:p:=by exact hid (show RWo Q1 w L X by rw [hQ1];exact a_D (fun b h=>⟨h.1,.inl h.2⟩) (c_h R))):p:=h
theorem N42 {p:Prop} (h:p:=by exact Lib.hid (And.intro e (And.intro (show c_5 ws ts i k tag=[] by rw [c_5,if_neg (by rw [e];decide)]) (show c_O ws ts i k tag=[] by rw [c_O,if_neg (by rw [e];decide)])))):p:=h
theorem N43 {p:Prop} (h:p:=by exact hid (show W.heap.size=w.heap.size+2 by rw [hW];simp)):p:=h
theorem N44 {p:Prop} (h:p:=by exact Lib.hid (And.intro hi (And.intro hz0 (And.intro hz1 hz2)))):p:=h
theorem N45 {p:Prop} (h:p:=by exact hid (show 0≤t.pc∧t.pc≤999 by omega)):p:=h
theorem N46 {p:Prop} (h:p:=by exact hid (show Bel Sx w V from d_r HBV.out)):p:=h
theorem N47 {p:Prop} (h:p:=by exact hid (And.intro hi (And.intro hz0 (And.intro hz1 hz2)))):p:=h
theorem N48 {p:Prop} (h:p:=by exact hid (show 0 < cs.length by rw [hcs];exact Nat.zero_lt_succ _)):p:=h
theorem N49 {p:Prop} (h:p:=by exact hid (And.intro F.fs.1 F.lf.1)):p:=h
theorem N50 {p:Prop} (h:p:=by exact (show a_p V1 w.heap.size [.int .i64 (ja:Int),.int .i64 (t.r 0),.int .i64 (t.r 1),.int .i64 (t.r 2),.int .i64 (t.r 3),.int .i64 (t.r 4),.int .i64 (t.r 5),.int .i64 (t.r 6),.int .i64 (t.r 7),.slice fa fn fc,.int .i64 t.st,.int .i64 t.ft,.slice la ln lc] by rw [hV1];exact a_y hx6 0 (by simp) _)):p:=h
theorem N51 {p:Prop} (h:p:=by exact (show a_p W w.heap.size (thC t fa fn fc la ln lc) by rw [hW];exact a_s _ (a_e (thC t fa fn fc la ln lc) _ rfl))):p:=h
theorem N52 {p:Prop} (h:p:=by exact (show ∀ j,j∈ws→j < l.length from fun j hj=>of_decide_eq_true (List.all_eq_true.1 hd j hj))):p:=h
theorem N53 {p:Prop} (h:p:=by exact hid (show a_p W w.heap.size (woC L D) by rw [hW];exact a_s _ (a_e _ _ rfl))):p:=h
theorem N54 {p:Prop} (h:p:=by exact (show thW X j=t by rw [thW,List.getD_eq_getElem?_getD,htt];rfl)):p:=h
theorem N55 {p:Prop} (h:p:=by exact Lib.hid (cj hf0<|cj hf1<|cj hf2<|cj hX<|cj hO<|cj hSX<|cj hSO<|cj hb<|hw)):p:=h
theorem N56 {p:Prop} (h:p:=by exact (show a1.tmps[6]?.getD undef=.int .i64 (rgt t i.2.2.1) from d_2 C 2 6 rfl rfl rfl rfl)):p:=h
theorem N57 {p:Prop} (h:p:=by exact hid (show (∀ b,Q1 b→Q b)∧(∀ b,Q1 b→b < w.heap.size∨w.heap.size+4≤b)∧(∀ b,w.heap.size+4≤b→Q1 b) by rw [hQ1];exact ⟨fun b h=>h.1,fun b h=>h.2,fun b h=>⟨hQ b (by omega),.inr h⟩⟩)):p:=h
theorem N58 {p:Prop} (h:p:=by exact hid (b_4 Q g b L X k W HH.out)):p:=h
theorem N59 {p:Prop} (h:p:=by exact (show w1.cell? ⟨w.heap.size,3,none⟩=some (.slice q l d) from a_t hb (by simp))):p:=h
theorem N60 {p:Prop} (h:p:=by exact hid (cj hf0<|cj hf1<|cj hf2<|cj hC<|cj hf4<|cj hf5<|cj hf6<|cj hW6<|cj hD<|cj hf8<|cj hW8<|cj hf9<|cj hS<|cj hf11<|hw)):p:=h
theorem N61 {p:Prop} (h:p:=by exact (show vals 9=.tuple #[.agg #[.slice a n c,.slice a' n' c',.int .i64 sD,.slice q l d],.int .i64 se] from List.head_eq_of_cons_eq (List.tail_eq_of_cons_eq h1))):p:=h
theorem N62 {p:Prop} (h:p:=by exact a_v (a_C (a_x HU (by omega) HB8.out)) HF0.out):p:=h
theorem N63 {p:Prop} (h:p:=by exact hid (show zs.length=13 by rw [hzs];rfl)):p:=h
theorem N64 {p:Prop} (h:p:=by exact hid (show a_p W (w.heap.size+1) woZ by rw [hW];exact a_e _ _ (by simp))):p:=h
theorem N65 {p:Prop} (h:p:=by exact hid (show ThQ Q1 V ta tn tc qa tm qc t from a_v (a_C HB2.out) HT1.out)):p:=h
theorem N66 {p:Prop} (h:p:=by exact (show ∀ i,w1.frozen? ⟨w.heap.size+1,i,none⟩=false by intro i;rw [hb.frozen (p:=⟨w.heap.size+1,i,none⟩) (by simp)];exact b_F (a_4 _ _ _ (by simp)))):p:=h
theorem N67 {p:Prop} (h:p:=by exact (show vals 32=.tuple #[.agg #[.slice a n c,.slice a' n' c',.int .i64 sD,.slice q l d],.int .i64 lv,.int .i64 se] from List.head_eq_of_cons_eq h1)):p:=h
theorem N68 {p:Prop} (h:p:=by exact (show vals 16=.tuple #[.agg #[.slice a n c,.slice a' n' c',.int .i64 sD,.slice q l d],.int .i64 lv,.int .i64 se] from List.head_eq_of_cons_eq h1)):p:=h
theorem N69 {p:Prop} (h:p:=by exact (show w1.cell? ⟨w.heap.size+1,0,none⟩=some (.slice none 0 0) from a_t hb (by simp))):p:=h
theorem N70 {p:Prop} (h:p:=by exact (show w1.cell? ⟨w.heap.size+1,1,none⟩=some (.slice none 0 0) from a_t hb (by simp))):p:=h
theorem N71 {p:Prop} (h:p:=by exact hid (show a_p W w.heap.size (woC L D) by rw [hW];exact a_s _ (a_s _ (a_e _ _ rfl)))):p:=h
theorem N72 {p:Prop} (h:p:=by exact (show ∀ (fn:Fn) (first cap:Array Value) (w:World),(Instr.makeFunc fn first cap).run Tryz.prog w=.ok (.func fn first cap) w from fun _ _ _ _=>rfl)):p:=h
theorem N73 {p:Prop} (h:p:=by exact hid (And.intro ki (And.intro kz0 (And.intro kz1 kz2)))):p:=h
theorem N74 {p:Prop} (h:p:=by exact hid (show Below w.heap.size w U by rw [HU.out];exact a_g HB1.out.size (HB1.out.alloc HB1.out.size _))):p:=h
theorem N75 {p:Prop} (h:p:=by exact hid (show a_p V (w.heap.size+1) woZ by rw [HV.out];exact a_j (by have:=HSZ.out;omega) (a_s _ HZ.out))):p:=h
theorem N76 {p:Prop} (h:p:=by exact (show a1.tmps[11]?.getD undef=.tuple #[.agg zs.toArray,.int .i64 0] from d_2 C 7 11 rfl rfl rfl rfl)):p:=h
theorem N77 {p:Prop} (h:p:=by exact (show a1.tmps[8]?.getD undef=.tuple #[.agg zs.toArray,.int .i64 0] from d_2 C 4 8 rfl rfl rfl rfl)):p:=h
theorem N78 {p:Prop} (h:p:=by exact (show vals 16=.tuple #[.agg #[.slice a n c,.slice a' n' c'],.int .i64 me] from List.head_eq_of_cons_eq (List.tail_eq_of_cons_eq h1))):p:=h
theorem N79 {p:Prop} (h:p:=by exact hid (cj hf0<|cj hf1<|cj hf2<|cj hf3<|cj hA<|cj hT<|cj hb<|hw)):p:=h
theorem N80 {p:Prop} (h:p:=by exact (show -9223372036854775808≤i∧i≤9223372036854775807 by simpa [Lit.wf,IntKind.min,IntKind.max,IntKind.signed,IntKind.bits] using hi)):p:=h
theorem N81 {p:Prop} (h:p:=by exact (show e_d W (w.heap.size+1) (.slice none 0 0) (.slice none 0 0) (.int .i64 0) (.slice none 0 0) by rw [hW];exact c_l _ (by simp))):p:=h
theorem N82 {p:Prop} (h:p:=by exact d_G w t self i fa fn fc la ln lc hcs):p:=h
theorem N83 {p:Prop} (h:p:=by exact (show w.heap.size+1 < w1.heap.size by have:=hb.size;simp at this;omega)):p:=h
theorem N84 {p:Prop} (h:p:=by exact hid (show a_p W (w.heap.size+2) woZ by rw [hW];exact a_e _ _ (by simp))):p:=h
theorem N85 {p:Prop} (h:p:=by exact (show W.heap.size=w.heap.size+2 by rw [hW];simp)):p:=h
theorem N86 {p:Prop} (h:p:=by exact ((Below.refl w.heap.size w).alloc (Nat.le_refl _) (.cells #[] 3)).grown hgrow (by simp) (fun r hr=>by cases hr;simp)):p:=h
theorem N87 {p:Prop} (h:p:=by exact (show d_f X k t i=0 by rw [d_f,if_neg (by omega),if_neg (by omega),if_neg (by omega),if_neg (by omega),if_neg (by omega)])):p:=h
theorem N88 {p:Prop} (h:p:=by exact hid (show Y.D=D by rw [←HYF.out];exact HDY.out)):p:=h
theorem N89 {p:Prop} (h:p:=by exact (show e_d W w.heap.size (.slice a n c) (.slice a' n' c') (.int .i64 D) (.slice q l d) by rw [hW];exact g_H _ (c_l _ rfl))):p:=h
theorem N90 {p:Prop} (h:p:=by exact (show t.fs.flatMap e_g++[.int .i64 (t.pc+1),.int .i64 (t.r 4),.int .i64 (t.r 5),.int .i64 (t.r 6),.int .i64 (t.r 7)]=(t.fs++[fr]).flatMap e_g by rw [List.flatMap_append,hfr];simp [e_g])):p:=h
theorem N91 {p:Prop} (h:p:=by exact hid (show a_p V (w.heap.size+2) (thC t ta tn tc qa tm qc) by rw [HV.out,HSZ.out];exact a_q (a_e thN _ HSZ.out.symm) rfl)):p:=h
theorem N92 {p:Prop} (h:p:=by exact hid (show a_p V (w.heap.size+3) (thC t ta tn tc qa tm qc) by rw [HV.out,HSZ.out];exact a_q (a_e thN _ HSZ.out.symm) rfl)):p:=h
theorem N93 {p:Prop} (h:p:=by exact Lib.hid (show b_g ws ts D bs j x=if a_I ws ts x=0 then (if D=0 then 0 else if ((bs.getD j []).length:Int)=D then 7 else 0) else a_I ws ts x by rw [b_g,if_pos hh,d_Q,Int.toNat_natCast])):p:=h
theorem N94 {p:Prop} (h:p:=by exact hid (show Y.D=D by rw [←HYF.out];exact HD.out)):p:=h
theorem N95 {p:Prop} (h:p:=by exact hid (show a_p U9 w.heap.size (woC (L.setTso ⟨a,n,c⟩ ⟨a',n',c'⟩ ⟨q,l,d⟩) D) by rw [HU9.out];exact b_c (xs:=[.slice a n c,.slice a' n' c',.int .i64 D,.slice q l d]) 1 HXE.out (by simp))):p:=h
theorem N96 {p:Prop} (h:p:=by exact (show a1.tmps[8]?.getD undef=.int .i64 (rgt t i.2.2.2) from d_2 C 4 8 rfl rfl rfl rfl)):p:=h
theorem N97 {p:Prop} (h:p:=by exact (show a_p W w.heap.size (tkC t fa fn fc la ln lc self i) by rw [hW];exact a_e (tkC t fa fn fc la ln lc self i) _ rfl)):p:=h
theorem N98 {p:Prop} (h:p:=by exact (show a_p U g [.slice a n c,.slice a' n' c',.int .i64 sD,.slice q l d] by rw [HU.out];exact a_q hx (by rw [hx2];rfl))):p:=h
theorem N99 {p:Prop} (h:p:=by exact hid (show a_p W w.heap.size [.slice L.ws.a L.ws.n L.ws.c,.slice L.ts.a L.ts.n L.ts.c] by rw [hW];exact a_s _ (a_e [.slice L.ws.a L.ws.n L.ws.c,.slice L.ts.a L.ts.n L.ts.c] _ rfl))):p:=h
theorem N100 {p:Prop} (h:p:=by exact hid (show Bel Sx w (U.setCell ⟨b,k*13,none⟩ (.int .i64 (pc+1))) from HBU.out.setCell (p:=⟨b,k*13,none⟩) HNN.out.2 _)):p:=h
theorem N101 {p:Prop} (h:p:=by exact Lib.hid (t_n (w:=w1) (g:=w.heap.size+1) (.slice none 0 0) (.slice none 0 0) (.int .i64 0) (.slice none 0 0) (by rw [r0];rfl) (by rw [r1];rfl) (by rw [r2];rfl) (by rw [r3];rfl))):p:=h
theorem N102 {p:Prop} (h:p:=by exact hid (show (∀ b,Q1 b→Q b)∧(∀ b,Q1 b→b < w.heap.size∨w.heap.size+2≤b)∧(∀ b,w.heap.size+2≤b→Q1 b) by rw [hQ1];exact ⟨fun b h=>h.1,fun b h=>h.2,fun b h=>⟨hQ b (by omega),.inr h⟩⟩)):p:=h
theorem N103 {p:Prop} (h:p:=by exact hid (show a_p U (w.heap.size+2) (woC L9 D) by rw [HU.out];exact a_q HZ9.out rfl)):p:=h
theorem N104 {p:Prop} (h:p:=by exact (HA6.out jb _ (b_M t.r jb jb8 _)).1):p:=h
theorem N105 {p:Prop} (h:p:=by exact (show Below w.heap.size w V1 by rw [hV1];exact HB6.out.setCell (p:=⟨w.heap.size,0,none⟩) (Nat.le_refl _) _)):p:=h
theorem N106 {p:Prop} (h:p:=by exact (show Below W.heap.size W W.drew from (Below.refl _ _).drew)):p:=h
theorem N107 {p:Prop} (h:p:=by exact (show vals 13=.tuple #[woV L Y2.D,.int .i64 rn] from List.head_eq_of_cons_eq (List.tail_eq_of_cons_eq h1))):p:=h
theorem N108 {p:Prop} (h:p:=by exact (show w1.cell? ⟨w.heap.size,2,none⟩=some (.int .i64 D) from a_t hb (by simp))):p:=h
theorem N109 {p:Prop} (h:p:=by exact hid (show RWo Q1 V L X from b_q HB2.out HR1.out)):p:=h
theorem N110 {p:Prop} (h:p:=by exact (show a_p W w.heap.size (thC t fa fn fc la ln lc) by rw [hW];exact a_e (thC t fa fn fc la ln lc) _ rfl)):p:=h
theorem N111 {p:Prop} (h:p:=by exact (show decide ((n:Int) < 1)=false by simp;omega)):p:=h
theorem N112 {p:Prop} (h:p:=by exact hid (show Below w.heap.size w w4 from (HB6.out.alloc (by have:=HZ6.out;omega) _).grown hgrow (by have:=HZ6.out;simp;omega) (fun g hr=>by have:=hbo g hr;omega))):p:=h
theorem N113 {p:Prop} (h:p:=by exact (show Kept (fun b=>Q1 b∧b≠g) w1 U by rw [HU.out];exact a_u (fun b h=>h.2))):p:=h
theorem N114 {p:Prop} (h:p:=by exact hid (show a_p V (w.heap.size+2) woZ by rw [HV.out];exact a_j (by have:=HSZ.out;omega) (a_s _ HZ.out))):p:=h
theorem N115 {p:Prop} (h:p:=by exact hid (show Below W.heap.size W V by rw [HV.out];exact a_g (by have:=HZ1.out;have:=HSZ.out;omega) (HB1.out.alloc (by have:=HZ1.out;have:=HSZ.out;omega) _))):p:=h
theorem N116 {p:Prop} (h:p:=by exact (HB.out.alloc hsz (.cells #[.int .i64 x] 3)).grown hgrow (by simp;omega) (fun r hr=>((HO.out.alloc (.cells #[.int .i64 x] 3)).lt r hr).1)):p:=h
theorem N117 {p:Prop} (h:p:=by exact (HB.out.alloc hsz (.cells #[.int .i64 y] 3)).grown hgrow (by simp;omega) (fun r hr=>((HO.out.alloc (.cells #[.int .i64 y] 3)).lt r hr).1)):p:=h
theorem N118 {p:Prop} (h:p:=by exact (show a1.eval (.tmp 7)=.agg cs.toArray from got C 3 7 rfl rfl rfl rfl)):p:=h
theorem N119 {p:Prop} (h:p:=by exact hid (show V.heap.size=w.heap.size+3 by rw [HV.out,a_O];simp [HSZ.out])):p:=h
theorem N120 {p:Prop} (h:p:=by exact Int.eq_ofNat_of_zero_le h0):p:=h
theorem N121 {p:Prop} (h:p:=by exact c_G (fun b=>Q b∧b≠w.heap.size∧b≠w.heap.size+1) a a' n c n' c' ws ts x nv w1 T1 T2 HQ.out HM.out):p:=h
theorem N122 {p:Prop} (h:p:=by exact Lib.hid (a_a (by go_grown) hb:Below w.heap.size w w1)):p:=h
theorem N123 {p:Prop} (h:p:=by exact Lib.hid (show f_m ws ts D bs j x=if a_I ws ts x=0 then (c_b (bs.getD j []) x).getD (b_L ws ts x) else 0 by rw [f_m,HE.out,d_Q,Int.toNat_natCast])):p:=h
theorem N124 {p:Prop} (h:p:=by exact hid (show W.heap.size=w.heap.size+3 by rw [hW];simp)):p:=h
theorem N125 {p:Prop} (h:p:=by exact hid (show a_p W w.heap.size (woC L D) by rw [hW];exact a_e _ _ rfl)):p:=h
theorem N126 {p:Prop} (h:p:=by exact hid (show a_p V2 ((w.heap.size+3)) (thC (b_j t) ta tn tc qa tm qc) by have h:=(a_y HT9.out 0 (by simp) (.int .i64 (t.pc+1)));rw [hV2];exact h)):p:=h
theorem N127 {p:Prop} (h:p:=by exact (show Vs repInt (fun b=>QQ b∧b < w.heap.size) Y1 la ln t.lf by rw [hY1];exact a_B (a_U _ _ _ (fun b hb=>by show b≠w.heap.size;omega)) L3)):p:=h
theorem N128 {p:Prop} (h:p:=by exact (show Vs repInt (fun b=>QQ b∧b < w.heap.size) Y2 la ln t.lf by rw [hY2];exact a_B (a_U _ _ _ (fun b hb=>by show b≠w.heap.size;omega)) L4)):p:=h
theorem N129 {p:Prop} (h:p:=by exact (show (ev != 0)=true by simpa using he)):p:=h
theorem N130 {p:Prop} (h:p:=by exact hid (show Below w.heap.size w V2 by rw [hV2];exact (HB9.out.setCell (p:=⟨(w.heap.size+3),0,none⟩) (by show _≤(w.heap.size+3);omega) _))):p:=h
theorem N131 {p:Prop} (h:p:=by exact (show w1.frozen? ⟨w.heap.size+1,0,none⟩=false by rw [hb.frozen (p:=⟨w.heap.size+1,0,none⟩) (by simp)];exact b_F (a_4 _ _ _ (by simp)))):p:=h
theorem N132 {p:Prop} (h:p:=by exact (show w1.frozen? ⟨w.heap.size+1,1,none⟩=false by rw [hb.frozen (p:=⟨w.heap.size+1,1,none⟩) (by simp)];exact b_F (a_4 _ _ _ (by simp)))):p:=h
theorem N133 {p:Prop} (h:p:=by exact (show vals 10=.tuple #[.agg #[.slice a n c,.slice a' n' c',.int .i64 sD,.slice q l d],.int .i64 se] from List.head_eq_of_cons_eq h1)):p:=h
theorem N134 {p:Prop} (h:p:=by exact (show w1.cell? ⟨w.heap.size+1,3,none⟩=some (.slice none 0 0) from a_t hb (by simp))):p:=h
theorem N135 {p:Prop} (h:p:=by exact hid (show a_p V2 (w.heap.size+2) _ by rw [hV2];exact (a_l (g':=(w.heap.size+3)) (o:=0) HZ9.out (by omega) (.int .i64 (t.pc+1))))):p:=h
theorem N136 {p:Prop} (h:p:=by exact hid (show Y.D=D by rw [←HYF.out,←HD.out];rfl)):p:=h
theorem N137 {p:Prop} (h:p:=by exact hid (show a_p V2 (w.heap.size) _ by rw [hV2];exact (a_l (g':=(w.heap.size+3)) (o:=0) HX9.out (by omega) (.int .i64 (t.pc+1))))):p:=h
theorem N138 {p:Prop} (h:p:=by exact hid (show a_p w1 (w.heap.size+1) zs from hv 9 (by decide))):p:=h
theorem N139 {p:Prop} (h:p:=by exact (show w1.cell? ⟨w.heap.size+1,2,none⟩=some (.int .i64 0) from a_t hb (by simp))):p:=h
theorem N140 {p:Prop} (h:p:=by exact hid (show a_p V2 w.heap.size (thC z fa fn fc la ln lc) by rw [←HZZ.out,HDK.out,hq,hV2];exact a_y HX7.out 0 (by simp) _)):p:=h
theorem N141 {p:Prop} (h:p:=by exact (show j < ps.length*2 by rw [←b_3];exact (List.getElem?_eq_some_iff.1 hu).1)):p:=h
theorem N142 {p:Prop} (h:p:=by exact (show a_p V1 (w.heap.size+2) thN by rw [hV1];exact a_l HR6.out (by omega) _)):p:=h
theorem N143 {p:Prop} (h:p:=by exact hid (show a_p V g (wkC L D k) by have h:=HHV.out.x;rw [HD.out] at h;exact h)):p:=h
theorem N144 {p:Prop} (h:p:=by exact hid (show a_p w4 w.heap.size (thC t fa tn fc qa tm qc) from b_C hgrow (fun h=>by have:=hbo _ h;omega) (a_s _ HX6.out))):p:=h
theorem N145 {p:Prop} (h:p:=by exact (show Kept Q1 U9 V2 by rw [hV2];exact (a_U _ _ _ (fun b hb=>by show b≠(w.heap.size+3);have:=HQ2.out.2.1 b hb;omega)))):p:=h
theorem N146 {p:Prop} (h:p:=by exact hid (show X.th.length=L.th.n from R.th.1)):p:=h
theorem N147 {p:Prop} (h:p:=by exact (show j < 8 by have:=(List.getElem?_eq_some_iff.1 hj).1;simpa using this)):p:=h
theorem N148 {p:Prop} (h:p:=by exact f_R t self i fa la fn fc ln lc w1 Hc.out):p:=h
theorem N149 {p:Prop} (h:p:=by exact hid (show W.heap.size=w.heap.size+1 by rw [hW];simp)):p:=h
theorem N150 {p:Prop} (h:p:=by exact hid (show Below w.heap.size w U by rw [HU.out];exact a_g (by have:=HS2.out;omega) (HB2.out.alloc HB2.out.size _))):p:=h
theorem N151 {p:Prop} (h:p:=by exact hid (show Below w.heap.size w V2 by rw [hV2];exact HB7.out.setCell (p:=⟨w.heap.size,0,none⟩) (Nat.le_refl _) _)):p:=h
theorem N152 {p:Prop} (h:p:=by exact hid (show (g_K t ra.toNat (b_L X.ws X.ts (rgt t rb))).pc=t.pc from rfl)):p:=h
theorem N153 {p:Prop} (h:p:=by exact hid (show a_p U wo.heap.size (thC x xa xn xc ya xm yc) by rw [HU.out];exact a_q (a_e thN wo.heap.size rfl) rfl)):p:=h
theorem N154 {p:Prop} (h:p:=by exact (show Kept Q0 V w4 from a_3 (e_h _ _) (c_1 hgrow (fun b hb h=>by have:=hbo _ h;have:=(HQ.out.2 b hb).1;omega)))):p:=h
theorem N155 {p:Prop} (h:p:=by exact Lib.hid (show b_g ws ts D bs j x=7 by rw [HE.out,HEV.out,if_pos rfl,if_neg HDN.out,HPS.out,HPL.out,if_pos hf])):p:=h
theorem N156 {p:Prop} (h:p:=by exact Lib.hid (show b_g ws ts D bs j x=0 by rw [HE.out,HEV.out,if_pos rfl,if_neg HDN.out,HPS.out,HPL.out,if_neg hf])):p:=h
theorem N157 {p:Prop} (h:p:=by exact hid (show V.heap.size=w.heap.size+4 by rw [HV.out,a_O];simp [HSZ.out])):p:=h
theorem N158 {p:Prop} (h:p:=by exact Lib.hid (show b_J D bs j x v=bs.set j (ps++[(x,v)]) by rw [b_J,if_neg HDN.out,d_Q,Int.toNat_natCast,HPS.out])):p:=h
theorem N159 {p:Prop} (h:p:=by exact (show decide (160 < (n:Int))=false by simp;omega)):p:=h
theorem N160 {p:Prop} (h:p:=by exact (show vals 17=.tuple #[.agg #[.slice a n c,.slice a' n' c'],.int .i64 me] from List.head_eq_of_cons_eq h1)):p:=h
theorem N161 {p:Prop} (h:p:=by exact hid (hb.alloc hb.size (Obj.cells #[.int .i64 x0,.int .i64 x1,.int .i64 x2,.int .i64 x3] 66))):p:=h
theorem N162 {p:Prop} (h:p:=by exact hid (show a_p U w.heap.size (woC L D) by rw [HU.out];exact a_j (by have:=HS2.out;omega) (a_s _ HX2.out))):p:=h
theorem N163 {p:Prop} (h:p:=by exact hid (show cs.length=8∧cs.toArray.all (·.oneCell')=true by rw [←hcs,s_z];split <;> simp [Value.oneCell'])):p:=h
theorem N164 {p:Prop} (h:p:=by exact hid (show a_p V w.heap.size (woC L D) by rw [HV.out];exact a_j (by have:=HSZ.out;omega) (a_s _ HX3.out))):p:=h
theorem N165 {p:Prop} (h:p:=by exact (show Kept (fun b=>b < wo.heap.size) wo V by rw [HV.out];exact a_3 (e_h _ _) (a_u (fun b hb=>by omega)))):p:=h
theorem N166 {p:Prop} (h:p:=by exact hid (show a_p U9 (w.heap.size+3) (thC t ta tn tc qa tm qc) by rw [HU9.out];exact a_j (by omega) HTE.out)):p:=h
theorem N167 {p:Prop} (h:p:=by exact (show kOk ((k:Int),a,b,c) m sg 0=true by rw [hv];simp [b_T];omega)):p:=h
theorem N168 {p:Prop} (h:p:=by exact (show kOk ((k:Int),a,b,c) m sg 1=true by rw [hv];simp [b_T];omega)):p:=h
theorem N169 {p:Prop} (h:p:=by exact (show kOk ((k:Int),a,b,c) m sg 2=true by rw [hv];simp [b_T];omega)):p:=h
theorem N170 {p:Prop} (h:p:=by exact (show Below w.heap.size w w2 from hb1.trans (hb'.mono (by omega)))):p:=h
theorem N171 {p:Prop} (h:p:=by exact (show Below w.heap.size w Y1 by rw [hY1];exact B3.setCell (p:=⟨w.heap.size,9,none⟩) (Nat.le_refl _) _)):p:=h
theorem N172 {p:Prop} (h:p:=by exact (show Below w.heap.size w Y2 by rw [hY2];exact B4.setCell (p:=⟨w.heap.size,0,none⟩) (Nat.le_refl _) _)):p:=h
theorem N173 {p:Prop} (h:p:=by exact (show wrap64 ((j:Int)+1)=j+1 from IntWalk.wrap64_in _ (by omega))):p:=h
theorem N174 {p:Prop} (h:p:=by exact (show wrap64 ((k:Int)+1)=k+1 from IntWalk.wrap64_in _ (by omega))):p:=h
theorem N175 {p:Prop} (h:p:=by exact hid (show a_p U (w.heap.size+1) woZ by rw [HU.out];exact a_j (by have:=HS2.out;omega) (a_s _ HZ2.out))):p:=h
theorem N176 {p:Prop} (h:p:=by exact (HA6.out jc _ (b_M t.r jc jc8 _)).1):p:=h
theorem N177 {p:Prop} (h:p:=by exact hid (show a_p V wo.heap.size (thC t ta tn tc qa tm qc) by rw [HV.out];exact a_q (a_e thN _ rfl) rfl)):p:=h
theorem N178 {p:Prop} (h:p:=by exact info_parts Tryz.info3):p:=h
theorem N179 {p:Prop} (h:p:=by exact S.2.resolve_left (by omega)):p:=h
theorem N180 {p:Prop} (h:p:=by exact (show ∀ g,(Value.slice va k vc).ownBlock=some g→w.heap.size+1≤g from fun g hg=>(HOW.out.lt g hg).1)):p:=h
theorem N181 {p:Prop} (h:p:=by exact (show a1.tmps[7]?.getD undef=.tuple #[.agg zs.toArray,.int .i64 0] from d_2 C 3 7 rfl rfl rfl rfl)):p:=h
theorem N182 {p:Prop} (h:p:=by exact hid (show a_p U w1.heap.size cs by rw [HU.out];exact a_q (a_e woK _ rfl) (by rw [HL8.out.1];rfl))):p:=h
theorem N183 {p:Prop} (h:p:=by exact (show (bs.getD j []).length≤8 by have:=(a_S hm).2.2.2 j (by omega);have:=(a_S hm).2.2.1;omega)):p:=h
theorem N184 {p:Prop} (h:p:=by exact (show wrap64 (pc+1)=pc+1 from IntWalk.wrap64_in _ (by rw [←hpc2,HZT.out];have:=HPC.out;omega))):p:=h
theorem N185 {p:Prop} (h:p:=by exact (show wrap64 (pc+1)=pc+1 from IntWalk.wrap64_in _ (by rw [←hpc2,HTU.out];have:=HPC.out;omega))):p:=h
theorem N186 {p:Prop} (h:p:=by exact (show w.heap.size+1 < w2.heap.size by have:=hb'.size;omega)):p:=h
theorem N187 {p:Prop} (h:p:=by exact hid (l_6 (i:=((k:Int),a,b,c)) (m:=m) H0.out (fun q hq=>by rw [HOP.out];exact hok.out q hq))):p:=h
theorem N188 {p:Prop} (h:p:=by exact info_parts Tryz.info59):p:=h
theorem N189 {p:Prop} (h:p:=by exact (show w1.cell? ⟨w.heap.size+1,0,none⟩=some (.slice none 0 0) by rw [hc _ _ (by simp)];simp)):p:=h
theorem N190 {p:Prop} (h:p:=by exact (show w1.cell? ⟨w.heap.size+1,1,none⟩=some (.slice none 0 0) by rw [hc _ _ (by simp)];simp)):p:=h
theorem N191 {p:Prop} (h:p:=by exact (show Below w2.heap.size w2 Y0 by rw [hY0];exact (Below.refl _ _).alloc (Nat.le_refl _) _)):p:=h
theorem N192 {p:Prop} (h:p:=by exact (show Kept Q1 w7 U8 by rw [HU8.out];exact a_u (fun b hb=>by have:=HQ2.out.2.1 b hb;omega))):p:=h
theorem N193 {p:Prop} (h:p:=by exact (show Kept Q1 w1 U9 by rw [HU9.out];exact a_u (fun b hb=>by have:=HQ2.out.2.1 b hb;omega))):p:=h
theorem N194 {p:Prop} (h:p:=by exact (show w1.cell? ⟨w.heap.size,1,none⟩=some (.slice a' n' c') from a_t hb (a_8 _ (by simp)))):p:=h
theorem N195 {p:Prop} (h:p:=by exact (show ∀ k i,k≠i→(⟨g,k,none⟩:Addr)≠⟨g,i,none⟩ from fun k i hk e=>hk (congrArg Addr.off e))):p:=h
theorem N196 {p:Prop} (h:p:=by exact hid (hstep hok.out (by rw [hv];exact decide_eq_true hz))):p:=h
theorem N197 {p:Prop} (h:p:=by exact Lib.hid (show (a_I ws ts i != 0)=true by simpa using he)):p:=h
theorem N198 {p:Prop} (h:p:=by exact (show Below W.heap.size W W1 by rw [hW1];exact (Below.refl _ _).alloc (Nat.le_refl _) _)):p:=h
theorem N199 {p:Prop} (h:p:=by exact hid (cj hf0<|cj hf1<|cj hf2<|cj hf3<|cj hf4<|cj hb<|hw)):p:=h
theorem N200 {p:Prop} (h:p:=by exact (show w1.cell? ⟨w.heap.size,0,none⟩=some (.slice a n c) from a_t hb (a_8 _ (by simp)))):p:=h
theorem N201 {p:Prop} (h:p:=by exact hid (show c_K (op,A,B,C) X.code.length=true from HCI.out _ (List.mem_of_getElem? hci))):p:=h
theorem N202 {p:Prop} (h:p:=by exact (show ∀ j,(⟨g,j,none⟩:Addr)≠⟨b,o,none⟩ from fun j e=>hne (congrArg Addr.block e).symm)):p:=h
theorem N203 {p:Prop} (h:p:=by exact (show (x != 0)=true by simpa using h0)):p:=h
theorem N204 {p:Prop} (h:p:=by exact (show a1.tmps[6]?.getD undef=.int .i64 (rgt t i.2.1) from d_2 C 2 6 rfl rfl rfl rfl)):p:=h
theorem N205 {p:Prop} (h:p:=by exact hid (show a_p V w1.heap.size (rgC t.r) by rw [HV.out];exact a_q (a_e rgZ _ rfl) rfl)):p:=h
theorem N206 {p:Prop} (h:p:=by exact hid (show Below w2.heap.size w2 V by rw [HV.out];exact a_g hsz (hb.out.alloc hsz _))):p:=h
theorem N207 {p:Prop} (h:p:=by exact (show a_p W w.heap.size (rgC r) by rw [hW];exact a_s _ (a_s _ (a_e (rgC r) _ rfl)))):p:=h
theorem N208 {p:Prop} (h:p:=by exact c_3 HR1.out.th (k:=0) (by have:=(a_S HM.out).2.1;have:=HBN.out;have:=HBL.out;omega)):p:=h
theorem N209 {p:Prop} (h:p:=by exact hid (show Below w.heap.size w U9 by rw [HU9.out];exact a_g (Nat.le_refl _) HBE.out)):p:=h
theorem N210 {p:Prop} (h:p:=by exact (show ∀ k,(⟨g',o,none⟩:Addr)≠⟨g,k,none⟩ from fun k e=>hne (congrArg Addr.block e))):p:=h
theorem N211 {p:Prop} (h:p:=by exact hid (show a_p U8 (w.heap.size+2) woZ by rw [HU8.out];exact a_j (by omega) HZ7.out)):p:=h
theorem N212 {p:Prop} (h:p:=by exact hid (show a_p U9 (w.heap.size+2) woZ by rw [HU9.out];exact a_j (by omega) HZE.out)):p:=h
theorem N213 {p:Prop} (h:p:=by exact (show vs[f+j]?=some (vs[f+j]'(by omega)) by simp [show f+j < vs.length by omega])):p:=h
theorem N214 {p:Prop} (h:p:=by exact (show w1.cell? ⟨w.heap.size,1,none⟩=some (.slice a' n' c') from a_t hb (by simp))):p:=h
theorem N215 {p:Prop} (h:p:=by exact hid (show Below W.heap.size W w1 by rw [hm];exact below_drewN (Below.refl _ _) m)):p:=h
theorem N216 {p:Prop} (h:p:=by exact hid (show a_p V2 (w.heap.size+2) thN by rw [hV2];exact a_l HR7.out (by omega) _)):p:=h
theorem N217 {p:Prop} (h:p:=by exact Lib.hid (show b_g ws ts 0 bs j x=0 by rw [HE.out,HEV.out,if_pos rfl,if_pos rfl])):p:=h
theorem N218 {p:Prop} (h:p:=by exact (show vals 14=.tuple #[woV L Y2.D,.int .i64 rn] from List.head_eq_of_cons_eq h1)):p:=h
theorem N219 {p:Prop} (h:p:=by exact (show ¬ Up listed n from fun h=>hu (hI.1 h k hkn))):p:=h
theorem N220 {p:Prop} (h:p:=by exact (show a1.tmps[9]?.getD undef=.int .i64 i.2.2.2 from d_2 C 5 9 rfl rfl rfl rfl)):p:=h
theorem N221 {p:Prop} (h:p:=by exact (show w1.cell? ⟨w.heap.size,0,none⟩=some (.slice a n c) from a_t hb (by simp))):p:=h
theorem N222 {p:Prop} (h:p:=by exact (show wrap64 ((k:Int)+1)=k+1 from IntWalk.wrap64_in _ (by have:=HN.out;omega))):p:=h
theorem N223 {p:Prop} (h:p:=by exact hid (show Below w.heap.size w U8 by rw [HU8.out];exact a_g (by omega) HB7.out)):p:=h
theorem N224 {p:Prop} (h:p:=by exact info_parts Tryz.infoF105):p:=h
theorem N225 {p:Prop} (h:p:=by exact (show Cap (some ⟨b,o,none⟩) (fn - 1) fc from ⟨by omega,i4,fun e=>by cases e⟩)):p:=h
theorem N226 {p:Prop} (h:p:=by exact (show W.cell? ⟨w.heap.size+1,0,none⟩=some (.slice none 0 0) by rw [hW];simp)):p:=h
theorem N227 {p:Prop} (h:p:=by exact (show W.cell? ⟨w.heap.size+1,1,none⟩=some (.slice none 0 0) by rw [hW];simp)):p:=h
theorem N228 {p:Prop} (h:p:=by exact hid (show w1.heap.size+1≤w2.heap.size by have:=hb2.size;have:=HSU.out;omega)):p:=h
theorem N229 {p:Prop} (h:p:=by exact hid (show w.heap.size+4≤w1.heap.size by have:=(hb).size;have:=HS2.out;omega)):p:=h
theorem N230 {p:Prop} (h:p:=by exact (show Region.wanted o (yielded ops a.tmps)=true by simp [Region.wanted,hg])):p:=h
theorem N231 {p:Prop} (h:p:=by exact hid (show (Lit.int .i64 at_).wf=true by rw [←hat];exact RowKit.wrap64_wf _)):p:=h
theorem N232 {p:Prop} (h:p:=by exact (show a1.tmps[13]?.getD undef=.int .i64 0 from d_2 C 9 13 rfl rfl rfl rfl)):p:=h
theorem N233 {p:Prop} (h:p:=by exact (show a1.tmps[10]?.getD undef=.int .i64 0 from d_2 C 6 10 rfl rfl rfl rfl)):p:=h
theorem N234 {p:Prop} (h:p:=by exact (show kOk ((k:Int),a,b,c) m sg 0=decide (a=0) by rw [kOk,if_neg hlt];rfl)):p:=h
theorem N235 {p:Prop} (h:p:=by exact (show kOk ((k:Int),a,b,c) m sg 1=decide (b=0) by rw [kOk,if_neg hlt];rfl)):p:=h
theorem N236 {p:Prop} (h:p:=by exact (show kOk ((k:Int),a,b,c) m sg 2=decide (c=0) by rw [kOk,if_neg hlt];rfl)):p:=h
theorem N237 {p:Prop} (h:p:=by exact Lib.hid (g_k ((Below.refl _ _).alloc hsz _) (by simp;omega) hgrow ho.out)):p:=h
theorem N238 {p:Prop} (h:p:=by exact (show ((bs.getD j []).length:Int)≤D from ((a_S hm).2.2.2 j (by omega)).1)):p:=h
theorem N239 {p:Prop} (h:p:=by exact hid (show a_p W w.heap.size (inC (0,0,0,0)) by rw [hW];exact a_e _ _ rfl)):p:=h
theorem N240 {p:Prop} (h:p:=by exact hid (show a_p W (w.heap.size+1) woK by rw [hW];exact a_e woK _ (by simp))):p:=h
theorem N241 {p:Prop} (h:p:=by exact hid (show a_p W (w.heap.size+1) woZ by rw [hW];exact a_e woZ _ (by simp))):p:=h
theorem N242 {p:Prop} (h:p:=by exact (show vals 20=.pointer (some ⟨g,0,none⟩) from List.head_eq_of_cons_eq g1)):p:=h
theorem N243 {p:Prop} (h:p:=by exact (show vals 20=.pointer (some ⟨g,0,none⟩) from List.head_eq_of_cons_eq e1)):p:=h
theorem N244 {p:Prop} (h:p:=by exact hid (hstep hok.out (by rw [HV.out];exact hb))):p:=h
theorem N245 {p:Prop} (h:p:=by exact b_s _ _ ⟨tg,t.r,t.fs++[fr],t.st,t.ft,t.lf⟩ fa3 la (fn+1) fc3 ln lc hf.1):p:=h
theorem N246 {p:Prop} (h:p:=by exact hid (show w.heap.size+4≤U8.heap.size by rw [HU8.out,a_O];exact HS7.out)):p:=h
theorem N247 {p:Prop} (h:p:=by exact hid (show w.heap.size+4≤U9.heap.size by rw [HU9.out,a_O];exact HSE.out)):p:=h
theorem N248 {p:Prop} (h:p:=by exact (show k < n by simpa [Nat.blt_eq] using hkn)):p:=h
theorem N249 {p:Prop} (h:p:=by exact (show U.frozen? ⟨b,k*13,none⟩=false from pf)):p:=h
theorem N250 {p:Prop} (h:p:=by exact Int.eq_ofNat_of_zero_le (show 0≤k by omega)):p:=h
theorem N251 {p:Prop} (h:p:=by exact (show ((k:Int)==i)=false by simpa using e)):p:=h
theorem N252 {p:Prop} (h:p:=by exact hid (show X2.D=D by rw [hX2];exact HD.out)):p:=h
theorem N253 {p:Prop} (h:p:=by exact (show ((k:Int)==i)=true by simpa using e)):p:=h
theorem N254 {p:Prop} (h:p:=by exact h_T (hv 10 (by decide)) rfl):p:=h
end Go.Proofs.YtogdpojnbgeknaaGreatDoor
