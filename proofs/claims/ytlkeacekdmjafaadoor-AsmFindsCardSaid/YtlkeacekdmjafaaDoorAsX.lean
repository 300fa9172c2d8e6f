/- The walk of the statement on texts that are read. -/
import Derived.Test.YtlkeacekdmjafaaDoorAsW
namespace Go.Proofs.YtlkeacekdmjafaaDoor
open Go.ChangeShapes Go.WideShapes Go.ChangeAt Go.RowKit
open Gen

theorem refSame_eq (a b : Option Addr) (n c d : Nat) (xs : List Ins) (w : World) (V : Vs repIns Any w a n xs) (U : Vs repIns Any w b n xs) (hn : n ≤ 50001) :
    Calls Tryd.prog 12 #[.slice a n c, .slice b n d] w (BoolPost true w) := by
  have h := refSame_any a b n n c d xs xs w V U hn hn
  rwa [show decide (xs = xs) = true from decide_eq_true rfl] at h
set_option maxRecDepth 100000 in
set_option maxHeartbeats 2000000 in
theorem AsmReads_walk (one : ByteArray) (w : World) (h1 : one.size ≤ 9223372036854775807) (G : Glob w) :
    Calls Tryd.prog 3 #[.string one] w (BoolPost true w) := by
  obtain ⟨s, hs⟩ : ∃ s, one.data.toList.take 3000 = s := ⟨_, rfl⟩
  have ls : s.length ≤ 3000 := by rw [← hs, List.length_take]; omega
  have pt1 := part_any one w h1
  rw [hs] at pt1
  have hp1 := fun (W : World) (GW : Glob W) => Parse_v s W (by omega) GW
  have hp2 := fun (W : World) => refParse_any (str s) W (by rw [str_size]; omega)
  simp only at hp2
  obtain ⟨⟨a, n1, e1⟩, r1⟩ : ∃ r, parseL s = r := ⟨_, rfl⟩
  have la := Nat.le_trans (codeOf_le r1) ls
  rw [r1] at hp1 hp2
  have la2 : a.length ≤ 50001 := by omega
  clear hs r1 la
  go_enter Tryd.func3, Tryd.ntmps3
  go_wp2_with (first
    | (go_at_call 8; refine pt1.mono ?_; clear pt1; rintro e w' ⟨rfl, hw⟩; obtain rfl := hw.symm)
    | (go_at_call 9; refine (hp1 _ G).mono ?_; clear hp1; rintro e w1 ⟨a1, c1, rfl, -, -, V1, b1⟩; have G1 := G.B b1)
    | (go_at_call 10; refine (hp2 _).mono ?_; clear hp2; rintro e w2 ⟨a2, c2, rfl, -, -, V2, b2⟩; have G2 := G1.B b2; have B2 := below_from b1 b2)
    | (go_at_call 11; refine (alive_k_any _ G2).mono ?_; rintro e w3 ⟨rfl, b3⟩; have B3 := below_from B2 b3; have V3 := vs_B b3 (vs_B b2 V1); have V4 := vs_B b3 V2)
    | (go_at_call 12; refine (refSame_eq _ _ _ _ _ _ _ V3 V4 la2).mono ?_; rintro e w4 ⟨rfl, b4⟩; have B4 := below_from B3 b4))
  go_ret
  exact boolPost_mk rfl B4
end Go.Proofs.YtlkeacekdmjafaaDoor
