/- The walk of BufferParts. -/
import Derived.Test.YtocblckhlpihhaaLawP
import Derived.Test.YtocblckhlpihhaaRefN
import Derived.Deep.RegionHeld3
import Derived.Deep.DeepCutAuto
import Derived.Deep.CutBlock
namespace Go.Proofs.Ytocblckhlpihhaa
open Go.ChangeShapes Go.WideShapes Go.ChangeAt Go.RowKit

set_option maxRecDepth 100000 in
set_option maxHeartbeats 4000000 in
theorem Parts_out (a : Option Addr) (n c m : Nat) (depth : Int) (w : World) (hm : m = min n 12) (hnc : n ≤ c) (hd : depth < 0 ∨ 8 < depth) :
    Calls Try.prog 7 #[.slice a n c, .int .i64 depth] w (BoolPost true w) := by
  have HM := Lib.hid hm
  have HE := Lib.hid (show pushE 0 depth = 1 by rw [pushE, if_pos (by omega)])
  have HL := Lib.hid (show pushL [] depth (1, 0) = [] by rw [pushL, List.length_nil, HE.out, if_neg (by decide)])
  clear hm
  rcases hd with hd | hd
  · have t1 : decide (depth < 0) = true := by simpa using hd
    go_enter Try.func7, Try.ntmps7
    go_upto_region 1 with fail
    go_cut [0] (fun s0 wx => s0 = .slice a m c ∧ wx = w)
    case first =>
      go_wp2_with fail
      all_goals
        go_meet
        have HH := HM.out
        exact ⟨by congr 1; omega, rfl⟩
    case rest =>
      obtain ⟨rfl, rfl⟩ := hcut
      go_wp2_with fail
      refine (Push_any none 0 0 [] depth 1 0 _ (pl_nil _) capOk_nil).mono ?_
      rintro e w1 ⟨q, d, rfl, hc1, s1, hb1⟩
      rw [HE.out]
      rw [HL.out] at hc1 s1 ⊢
      rw [show List.length ([] : List (Int × Int)) = 0 from rfl] at hc1 s1 ⊢
      clear s1 hc1
      go_wp2_with fail
      refine (alive2_any _).mono ?_
      rintro e w2 ⟨rfl, hb2⟩
      have B := Lib.hid (below_from hb1 hb2)
      clear hb1 hb2
      go_wp2
      go_ret
      exact boolPost_mk rfl B.out
  · have t1 : decide (depth < 0) = false := by simp; omega
    have t2 : decide (8 < depth) = true := by simpa using hd
    go_enter Try.func7, Try.ntmps7
    go_upto_region 1 with fail
    go_cut [0] (fun s0 wx => s0 = .slice a m c ∧ wx = w)
    case first =>
      go_wp2_with fail
      all_goals
        go_meet
        have HH := HM.out
        exact ⟨by congr 1; omega, rfl⟩
    case rest =>
      obtain ⟨rfl, rfl⟩ := hcut
      go_wp2_with fail
      refine (Push_any none 0 0 [] depth 1 0 _ (pl_nil _) capOk_nil).mono ?_
      rintro e w1 ⟨q, d, rfl, hc1, s1, hb1⟩
      rw [HE.out]
      rw [HL.out] at hc1 s1 ⊢
      rw [show List.length ([] : List (Int × Int)) = 0 from rfl] at hc1 s1 ⊢
      clear s1 hc1
      go_wp2_with fail
      refine (alive2_any _).mono ?_
      rintro e w2 ⟨rfl, hb2⟩
      have B := Lib.hid (below_from hb1 hb2)
      clear hb1 hb2
      go_wp2
      go_ret
      exact boolPost_mk rfl B.out

/-- the buffer at work -/
def BufAt (w : World) (b : Value) (n : Nat) (ps : List (Int × Int)) : Prop := ∃ q c, b = .slice q n c ∧ CapOk q n c ∧ Pl w q n ps
theorem push_less {k D : Nat} (h : k < D) (h8 : D ≤ 8) : pushE k D = 0 := by rw [pushE, if_neg (by omega), if_neg (by omega)]
theorem push_full {D : Nat} (h8 : D ≤ 8) : pushE D D = 7 := by rw [pushE, if_neg (by omega), if_pos rfl]
theorem drop_first {ps : List (Int × Int)} {k : Nat} (h : k < ps.length) : firstP (ps.drop k) = ps.getD k (0, 0) ∧ restP (ps.drop k) = ps.drop (k + 1) ∧ popE (ps.drop k) = 0 := by
  refine ⟨by simp [firstP], by simp [restP], ?_⟩
  rw [popE, if_neg]
  intro e
  have := congrArg List.length e
  simp at this; omega
theorem getD_take (ps : List (Int × Int)) (M k : Nat) (h : k < M) : (ps.take M).getD k (0, 0) = ps.getD k (0, 0) := by
  simp only [List.getD_eq_getElem?_getD, List.getElem?_take]
  rw [if_pos h]

set_option maxRecDepth 100000 in
set_option maxHeartbeats 8000000 in
theorem Parts_in (a : Option Addr) (n c m D : Nat) (ps : List (Int × Int)) (w : World) (S : Pl w a m ps) (hm : m = min n 12) (hnc : n ≤ c) (h8 : D ≤ 8) :
    Calls Try.prog 7 #[.slice a n c, .int .i64 (D : Int)] w (BoolPost true w) := by
  have HM := Lib.hid hm
  have hm12 : m ≤ 12 := by omega
  have Hm := Lib.hid S.1
  obtain ⟨M, hM⟩ : ∃ M, M = min m D := ⟨_, rfl⟩
  have HMM := Lib.hid hM
  have hM1 : M ≤ m := by omega
  have hM2 : M ≤ D := by omega
  have h80 : (0 : Int) ≤ D := by omega
  have h88 : (D : Int) ≤ 8 := by omega
  clear hm hM
  go_enter Try.func7, Try.ntmps7
  go_upto_region 1 with fail
  go_cut [0] (fun s0 wx => s0 = .slice a m c ∧ wx = w)
  case first =>
    go_wp2_with fail
    all_goals
      go_meet
      have HH := HM.out
      exact ⟨by congr 1; omega, rfl⟩
  case rest =>
    obtain ⟨rfl, hw⟩ := hcut
    replace hw := hw.symm
    subst hw
    go_wp2_with fail
    go_loopw [7, 48] (fun b i wr => ∃ k : Nat, k ≤ m ∧ i = .int .i64 k ∧ BufAt wr b (min k D) (ps.take (min k D)) ∧ Below w.heap.size w wr) (fun _ i _ => m - (intOf i).toNat)
    case atStart => exact ⟨0, by omega, rfl, ⟨none, 0, by simp, by simpa using capOk_nil, by simpa using pl_nil _⟩, Below.refl _ _⟩
    case round =>
      obtain ⟨k, hk, rfl, ⟨q, d, rfl, hcap, hP⟩, hb⟩ := hrel
      by_cases hlt : k < m
      · obtain ⟨b, o, rfl, R⟩ := S.2.resolve_left (by omega)
        have x0 := cellB hb (R k (by rw [Hm.out]; exact hlt)).1
        have x1 := cellB hb (R k (by rw [Hm.out]; exact hlt)).2
        have HTS := Lib.hid (take_snocP ps k (by rw [Hm.out]; exact hlt))
        obtain ⟨⟨y, v⟩, hpk⟩ : ∃ z, ps.getD k (0, 0) = z := ⟨_, rfl⟩
        rw [hpk] at x0 x1 HTS
        dsimp only at x0 x1
        have HB := Lib.hid hb
        have i0 : (0 : Int) ≤ k := by omega
        have i1 : (k : Int) < m := by omega
        clear hpk hb R
        by_cases hkd : k < D
        · have e1 : min k D = k := by omega
          have e2 : min (k + 1) D = k + 1 := by omega
          rw [e1] at hP hcap ⊢
          have HE2 := Lib.hid e2
          have HC := Lib.hid hcap
          have HPL := Lib.hid (show pushL (ps.take k) D (y, v) = ps.take (k + 1) by
            rw [pushL, hP.1, push_less hkd h8, if_pos rfl, HTS.out])
          have HLN := Lib.hid (show (ps.take (k + 1)).length = k + 1 by rw [List.length_take, Hm.out]; omega)
          have HPE := Lib.hid (push_less hkd h8)
          have i2 : (k : Int) < D := by omega
          clear e1 e2 hcap
          go_wp2_with fail
          refine (Push_any q k d _ D y v _ (plA _ hP) HC.out).mono ?_
          rintro e w1 ⟨q', d', rfl, hc1, s1, hb1⟩
          rw [HPE.out]
          rw [HPL.out] at hc1 s1 ⊢
          rw [HLN.out] at hc1 s1 ⊢
          have HB1 := Lib.hid (below_from (HB.out.alloc HB.out.size _) hb1)
          have HC1 := Lib.hid hc1
          have HS1 := Lib.hid s1
          clear hb1 hc1 s1 hP
          go_wp2_with fail
          go_roundw
          case rel => exact ⟨k + 1, by omega, by go_num, by rw [HE2.out]; exact ⟨q', d', by go_num, HC1.out, HS1.out.pl⟩, HB1.out⟩
          case measure => simp [intOf]; omega
        · have e1 : min k D = D := by omega
          have e2 : min (k + 1) D = D := by omega
          rw [e1] at hP hcap ⊢
          have HE2 := Lib.hid e2
          have HC := Lib.hid hcap
          have HPE := Lib.hid (push_full h8)
          have HPL := Lib.hid (show pushL (ps.take D) D (y, v) = [] by
            rw [pushL, hP.1, push_full h8, if_neg (by decide)])
          clear e1 e2 hcap
          go_wp2_with fail
          refine (Push_any q D d _ D y v _ (plA _ hP) HC.out).mono ?_
          rintro e w1 ⟨q', d', rfl, hc1, s1, hb1⟩
          rw [HPE.out]
          rw [HPL.out] at hc1 s1 ⊢
          rw [show List.length ([] : List (Int × Int)) = 0 from rfl] at hc1 s1 ⊢
          have HB1 := Lib.hid (below_from (HB.out.alloc HB.out.size _) hb1)
          have HP1 := Lib.hid (plB hb1 (plA _ hP))
          clear hb1 hc1 s1 hP
          go_wp2_with fail
          go_roundw
          case rel => exact ⟨k + 1, by omega, by go_num, by rw [HE2.out]; exact ⟨q, d, rfl, HC.out, HP1.out⟩, HB1.out⟩
          case measure => simp [intOf]; omega
      · obtain rfl : k = m := by omega
        rw [← HMM.out] at hP hcap ⊢
        have HP := Lib.hid hP
        have HC := Lib.hid hcap
        have HB := Lib.hid hb
        clear hP hcap hb
        go_upto_region 17 with fail
        go_cut [84, 85] (fun s84 s85 wx => s84 = .int .i64 M ∧ s85 = .int .i64 0 ∧ wx = wr)
        case first =>
          go_wp2_with fail
          all_goals
            go_meet
            have HH := HMM.out
            exact ⟨by congr 1; omega, rfl, rfl⟩
        case rest =>
          obtain ⟨rfl, rfl, hw⟩ := hcut
          replace hw := hw.symm
          subst hw
          obtain ⟨T, hT⟩ : ∃ T, ps.take M = T := ⟨_, rfl⟩
          have HTP := Lib.hid hT
          have HTL := Lib.hid (show T.length = M by rw [← hT, List.length_take, Hm.out]; omega)
          rw [hT] at HP
          go_wp2_with fail
          go_loopw [7, 85] (fun b i wr => ∃ j : Nat, j ≤ M ∧ i = .int .i64 j ∧ BufAt wr b (M - j) (T.drop j) ∧ Below w.heap.size w wr) (fun _ i _ => M - (intOf i).toNat)
          case atStart => exact ⟨0, by omega, rfl, ⟨q, d, rfl, HC.out, by simpa using HP.out⟩, HB.out⟩
          case round =>
            obtain ⟨j, hj, rfl, ⟨q', d', rfl, hcap, hP⟩, hb⟩ := hrel
            by_cases hlt2 : j < M
            · obtain ⟨b, o, rfl, R⟩ := S.2.resolve_left (by omega)
              have x0 := cellB hb (R j (by rw [Hm.out]; omega)).1
              have x1 := cellB hb (R j (by rw [Hm.out]; omega)).2
              have hdf := drop_first (ps := T) (k := j) (by rw [HTL.out]; exact hlt2)
              rw [← HTP.out, getD_take ps M j hlt2, HTP.out] at hdf
              obtain ⟨⟨y, v⟩, hpk⟩ : ∃ z, ps.getD j (0, 0) = z := ⟨_, rfl⟩
              rw [hpk] at x0 x1 hdf
              dsimp only at x0 x1
              have HDF := Lib.hid hdf
              have HDL := Lib.hid (show (T.drop (j + 1)).length = M - (j + 1) by rw [List.length_drop, HTL.out])
              have HBB := Lib.hid hb
              have HCA := Lib.hid hcap
              have i0 : (0 : Int) ≤ j := by omega
              have i1 : (j : Int) < k := by omega
              have hM12 : M ≤ 12 := by omega
              clear hpk hb R hdf hcap
              go_wp2_with fail
              refine (Pop_any q' (M - j) d' (T.drop j) _ hP HCA.out (by omega)).mono ?_
              rintro e w1 ⟨t, u, rfl, hc1, s1, hb1⟩
              rw [HDF.out.1, HDF.out.2.2]
              rw [HDF.out.2.1] at hc1 s1 ⊢
              rw [HDL.out] at hc1 s1 ⊢
              have HB1 := Lib.hid (below_from HBB.out hb1)
              have X0 := cellA (Obj.cells #[.int .i64 y, .int .i64 v] 24) (cellB hb1 x0)
              have X1 := cellA (Obj.cells #[.int .i64 y, .int .i64 v] 24) (cellB hb1 x1)
              have HC1 := Lib.hid hc1
              have HS1 := Lib.hid s1
              have q4 := fun w => neq_put y v y v w
              have q5 : (y == y && v == v) = true := by simp
              clear hb1 hc1 s1 hP x0 x1
              go_wp2_with fail
              go_quiet (fail)
              go_wp2_with fail
              go_roundw
              case rel => exact ⟨j + 1, by omega, by go_num, ⟨t, u, rfl, HC1.out, (plF_alloc _ HS1.out).pl⟩, below_drewN (HB1.out.alloc HB1.out.size _) _⟩
              case measure => simp [intOf]; omega
            · obtain rfl : j = M := by omega
              have HBB := Lib.hid hb
              have HCA := Lib.hid hcap
              have HZ := Lib.hid (show T.drop j = [] by apply List.drop_eq_nil_of_le; rw [HTL.out]; omega)
              rw [Nat.sub_self] at hP hcap ⊢
              rw [HZ.out] at hP
              rw [Nat.sub_self] at HCA
              clear hb hcap
              go_wp2_with fail
              refine (Pop_any q' 0 d' [] _ hP HCA.out (by omega)).mono ?_
              rintro e w1 ⟨t, u, rfl, hc1, s1, hb1⟩
              rw [show popE [] = 8 from rfl, show firstP [] = (0, 0) from rfl]
              have HB1 := Lib.hid (below_from HBB.out hb1)
              clear hb1 hc1 s1 hP
              go_wp2_with fail
              refine (alive2_any _).mono ?_
              rintro e w2 ⟨rfl, hb2⟩
              have B := Lib.hid (below_from (HB1.out.alloc HB1.out.size _) hb2)
              clear hb2
              go_wp2
              go_ret
              exact boolPost_mk rfl B.out

theorem Parts_walk (a : Option Addr) (n c : Nat) (ps : List (Int × Int)) (depth : Int) (w : World) (S : Pl w a (min n 12) ps) (_hcap : CapOk a (min n 12) c) (hnc : n ≤ c) :
    Calls Try.prog 7 #[.slice a n c, .int .i64 depth] w (BoolPost true w) := by
  by_cases hd : depth < 0 ∨ 8 < depth
  · exact Parts_out a n c _ depth w rfl hnc hd
  · obtain ⟨D, rfl⟩ := Int.eq_ofNat_of_zero_le (show 0 ≤ depth by omega)
    exact Parts_in a n c _ D ps w S rfl hnc (by omega)
end Go.Proofs.Ytocblckhlpihhaa
