/- Contracts of the document's own answers of layer 3 (package respiteref03): Sizes, Right, Same, New. -/
import Derived.Test.YteojpdhmhjoeiaaLawT
import Derived.Test.YteojpdhmhjoeiaaRefB
namespace Go.Proofs.Yteojpdhmhjoeiaa
open Go.ChangeShapes Go.WideShapes Go.ChangeAt Go.RowKit

theorem refSizes_any (k D : Int) (w : World) : Calls Try.prog 32 #[.int .i64 k, .int .i64 D] w fun e w' => e = .returned (.bool (sizesB k D)) ∧ w = w' := by
  have H := Lib.hid (show sizesB k D = decide (1 ≤ k ∧ k ≤ 8 ∧ 0 ≤ D ∧ D ≤ 8) from rfl)
  by_cases h1 : 1 ≤ k
  all_goals by_cases h2 : k ≤ 8
  all_goals by_cases h3 : 0 ≤ D
  all_goals
    go_enter Try.func32, Try.ntmps32
    go_wp2
    go_ret
    exact ⟨ret_bool (by rw [H.out, Bool.eq_iff_iff]; simp; try omega), rfl⟩

set_option maxRecDepth 100000 in
set_option maxHeartbeats 4000000 in
theorem refRightT_any (a a' q : Option Addr) (n c n' c' l d : Nat) (ws ts : List Int) (D : Int) (bs : List (List (Int × Int))) (w : World) (S1 : Sl w a n ws) (S2 : Sl w a' n' ts) (S : Bl w q l bs) :
    Calls Try.prog 13 #[.agg #[.slice a n c, .slice a' n' c', .int .i64 D, .slice q l d]] w (BoolPost (mayT ws ts D bs) w) := by
  have Hn := Lib.hid S1.1
  have Hl := Lib.hid S.1
  cases hm : mayB ws ts with
  | false =>
    have HM := Lib.hid hm
    have HT := Lib.hid (show mayT ws ts D bs = false by simp [mayT, hm])
    clear hm
    go_enter Try.func13, Try.ntmps13
    go_wp2_with fail
    refine (refRight_any a a' n c n' c' ws ts _ (slA _ S1) (slA _ S2)).mono ?_
    rintro e w1 ⟨rfl, hb⟩
    rw [HM.out]
    have HB := Lib.hid (below_from (by go_grown) hb : Below w.heap.size w w1)
    clear hb
    go_wp2
    go_ret
    exact boolPost_mk HT.out HB.out
  | true =>
    have HM := Lib.hid hm
    clear hm
    cases hs : sizesB l D with
    | false =>
      have HT := Lib.hid (show mayT ws ts D bs = false by
        have : sizesB bs.length D = false := by rw [Hl.out]; exact hs
        simp [mayT, this])
      have HS := Lib.hid hs
      clear hs
      go_enter Try.func13, Try.ntmps13
      go_wp2_with fail
      refine (refRight_any a a' n c n' c' ws ts _ (slA _ S1) (slA _ S2)).mono ?_
      rintro e w1 ⟨rfl, hb⟩
      rw [HM.out]
      have hb1 : Below w.heap.size w w1 := below_from (by go_grown) hb
      have c2 : w1.cell? ⟨w.heap.size, 2, none⟩ = some (.int .i64 D) := cellB hb (by simp)
      have c3 : w1.cell? ⟨w.heap.size, 3, none⟩ = some (.slice q l d) := cellB hb (by simp)
      have HB1 := Lib.hid hb1
      clear hb hb1
      go_wp2_with fail
      refine (refSizes_any l D _).mono ?_
      rintro e w2 ⟨rfl, rfl⟩
      rw [HS.out]
      go_wp2
      go_ret
      exact boolPost_mk HT.out HB1.out
    | true =>
      have hs' : sizesB bs.length D = true := by rw [Hl.out]; exact hs
      have HS := Lib.hid hs'
      have HS2 := Lib.hid hs
      simp only [sizesB, decide_eq_true_eq] at hs
      obtain ⟨s1, s2, s3, s4⟩ := hs
      have s1' : 1 ≤ l := by omega
      have s2' : l ≤ 8 := by omega
      clear hs' s1 s2
      go_enter Try.func13, Try.ntmps13
      go_wp2_with fail
      refine (refRight_any a a' n c n' c' ws ts _ (slA _ S1) (slA _ S2)).mono ?_
      rintro e w1 ⟨rfl, hb⟩
      rw [HM.out]
      have hb1 : Below w.heap.size w w1 := below_from (by go_grown) hb
      have c0 : w1.cell? ⟨w.heap.size, 0, none⟩ = some (.slice a n c) := cellB hb (by simp)
      have c1 : w1.cell? ⟨w.heap.size, 1, none⟩ = some (.slice a' n' c') := cellB hb (by simp)
      have c2 : w1.cell? ⟨w.heap.size, 2, none⟩ = some (.int .i64 D) := cellB hb (by simp)
      have c3 : w1.cell? ⟨w.heap.size, 3, none⟩ = some (.slice q l d) := cellB hb (by simp)
      have HB1 := Lib.hid hb1
      have S' := blB hb1 S
      clear hb hb1 S
      go_wp2_with fail
      refine (refSizes_any l D _).mono ?_
      rintro e w2 ⟨rfl, rfl⟩
      rw [HS2.out]
      go_wp2
      go_loopw [23] (fun s wr => ∃ k : Nat, k ≤ l ∧ s = .int .i64 k ∧ Hid (BufsTo ws.length D bs k) ∧ Below w1.heap.size w1 wr) (fun s _ => l - (intOf s).toNat)
      case atStart => exact ⟨0, by omega, rfl, by intro j hj; omega, Below.refl _ _⟩
      case round =>
        obtain ⟨k, hk, rfl, hr, hb⟩ := hrel
        have c0' := cellB hb c0
        have c2' := cellB hb c2
        have HB := Lib.hid hb
        by_cases hlt : k < l
        · obtain ⟨b, o, p, pc, rfl, k0, hcap, hp⟩ := bl_at (blB hb S') hlt
          obtain ⟨x, hx⟩ : ∃ x, bs.getD k [] = x := ⟨_, rfl⟩
          rw [hx] at k0 hp hcap
          have HX := Lib.hid hx
          obtain ⟨m, hmm⟩ : ∃ m, x.length = m := ⟨_, rfl⟩
          rw [hmm] at k0 hp hcap
          have HMM := Lib.hid hmm
          have hcap1 := hcap.1
          have hcap2 := hcap.2.1
          have i1 : (0 : Int) ≤ k := by omega
          have i2 : (k : Int) < l := by omega
          clear hx hmm hb hcap
          by_cases hD : D < m
          · have HF := Lib.hid (mayT_buf (ws := ws) (ts := ts) (D := D) (bs := bs) (k := k) (by rw [Hl.out]; exact hlt) (by rw [HX.out]; simp [bufB, HMM.out]; omega))
            go_wp2
            go_ret
            exact boolPost_mk HF.out (HB1.out.trans (HB.out.mono HB1.out.size))
          · have hD' : (m : Int) ≤ D := by omega
            go_wp2_with fail
            go_loopw [34] (fun s wq => ∃ i : Nat, i ≤ m ∧ s = .int .i64 i ∧ Hid (PutsTo n x i) ∧ Below wr.heap.size wr wq) (fun s _ => m - (intOf s).toNat)
            case atStart => exact ⟨0, by omega, rfl, by intro j hj; omega, Below.refl _ _⟩
            case round =>
              obtain ⟨i, hi, rfl, hri, hbi⟩ := hrel
              have c0'' := cellB hbi c0'
              have HBI := Lib.hid hbi
              by_cases hlt2 : i < m
              · obtain ⟨pb, po, rfl, R⟩ := hp.2.resolve_left (by omega)
                have g := R i (by rw [HMM.out]; exact hlt2)
                have g1 := cellB hbi g.1
                have g2 := cellB hbi g.2
                obtain ⟨y, hy⟩ : ∃ y, x.getD i (0, 0) = y := ⟨_, rfl⟩
                rw [hy] at g1 g2
                obtain ⟨y1, y2⟩ := y
                have HY := Lib.hid hy
                dsimp only at g1 g2
                have j1 : (0 : Int) ≤ i := by omega
                have j2 : (i : Int) < m := by omega
                have d0 := cellA (Obj.cells #[.int .i64 y1, .int .i64 y2] 69) c0''
                have hszi := hbi.size
                clear g hy hbi
                by_cases hin : 0 ≤ y1 ∧ y1 < n
                · obtain ⟨h1, h2⟩ := hin
                  have HF := Lib.hid (putsTo_succ hri.out (by rw [HY.out]; simp [inP]; omega))
                  go_wp2_with fail
                  go_roundw
                  case rel => exact ⟨i + 1, by omega, by go_num, HF.out, HBI.out.alloc hszi _⟩
                  case measure => simp [intOf]; omega
                · have HF := Lib.hid (mayT_buf (ws := ws) (ts := ts) (D := D) (bs := bs) (k := k) (by rw [Hl.out]; exact hlt) (by rw [HX.out, Hn.out]; exact bufB_put (k := i) (by rw [HMM.out]; exact hlt2) (by rw [HY.out]; simp [inP]; omega)))
                  by_cases h1 : 0 ≤ y1
                  · have h2 : (n : Int) ≤ y1 := by omega
                    clear hin
                    go_wp2
                    go_ret
                    exact boolPost_mk HF.out (HB1.out.trans ((HB.out.trans ((HBI.out.alloc hszi _).mono HB.out.size)).mono HB1.out.size))
                  · clear hin
                    go_wp2
                    go_ret
                    exact boolPost_mk HF.out (HB1.out.trans ((HB.out.trans ((HBI.out.alloc hszi _).mono HB.out.size)).mono HB1.out.size))
              · obtain rfl : i = m := by omega
                have HF := Lib.hid (bufsTo_succ hr.out (by rw [HX.out, Hn.out]; exact bufB_done (by rw [HMM.out]; exact hD') (by rw [HMM.out]; exact hri.out)))
                clear hbi
                go_wp2_with fail
                go_roundw
                case rel => exact ⟨k + 1, by omega, by go_num, HF.out, HB.out.trans (HBI.out.mono HB.out.size)⟩
                case measure => simp [intOf]; omega
        · obtain rfl : k = l := by omega
          have HF := Lib.hid (mayT_done HM.out HS.out (by rw [Hl.out]; exact hr.out))
          clear hb
          go_wp2
          go_ret
          exact boolPost_mk HF.out (HB1.out.trans (HB.out.mono HB1.out.size))

set_option maxRecDepth 100000 in
set_option maxHeartbeats 4000000 in
/-- two machines that read as the same lists are the same -/
theorem refSameT_any (a a' q b b' r : Option Addr) (n c n' c' l d m e m' e' k f : Nat) (ws ts : List Int) (D : Int) (bs : List (List (Int × Int))) (w : World) (S1 : Sl w a n ws) (S2 : Sl w a' n' ts) (S : Bl w q l bs) (T1 : Sl w b m ws) (T2 : Sl w b' m' ts) (T : Bl w r k bs) (hn : n ≤ 1000) (hn' : n' ≤ 1000) (hl : l ≤ 1000) :
    Calls Try.prog 12 #[.agg #[.slice a n c, .slice a' n' c', .int .i64 D, .slice q l d], .agg #[.slice b m e, .slice b' m' e', .int .i64 D, .slice r k f]] w (BoolPost true w) := by
  obtain rfl : m = n := by rw [← S1.1, T1.1]
  obtain rfl : m' = n' := by rw [← S2.1, T2.1]
  obtain rfl : k = l := by rw [← S.1, T.1]
  have Hl := Lib.hid S.1
  have qD : (D != D) = false := by simp
  have qk : ((k : Int) != k) = false := by simp
  go_enter Try.func12, Try.ntmps12
  go_wp2_with fail
  refine (Same_any a a' m c m' c' b b' m e m' e' ws ts ws ts _ (slA _ (slA _ S1)) (slA _ (slA _ S2)) (slA _ (slA _ T1)) (slA _ (slA _ T2)) (by omega) (by omega)).mono ?_
  rintro x w1 ⟨rfl, hb⟩
  rw [sameB_refl, sameB_refl]
  have hb1 : Below w.heap.size w w1 := below_from (by go_grown) hb
  have x2 : w1.cell? ⟨w.heap.size, 2, none⟩ = some (.int .i64 D) := cellB hb (cellA _ (by simp))
  have x3 : w1.cell? ⟨w.heap.size, 3, none⟩ = some (.slice q k d) := cellB hb (cellA _ (by simp))
  have y2 : w1.cell? ⟨w.heap.size + 1, 2, none⟩ = some (.int .i64 D) := cellB hb (by simp)
  have y3 : w1.cell? ⟨w.heap.size + 1, 3, none⟩ = some (.slice r k f) := cellB hb (by simp)
  have HB1 := Lib.hid hb1
  replace S := blB hb1 S
  replace T := blB hb1 T
  clear hb hb1 S1 S2 T1 T2
  go_wp2
  go_loopw [31] (fun s wr => ∃ j : Nat, j ≤ k ∧ s = .int .i64 j ∧ Below w1.heap.size w1 wr) (fun s _ => k - (intOf s).toNat)
  case atStart => exact ⟨0, by omega, rfl, Below.refl _ _⟩
  case round =>
    obtain ⟨j, hj, rfl, hb⟩ := hrel
    have HB := Lib.hid hb
    by_cases hlt : j < k
    · obtain ⟨b1, o1, p, pc, rfl, g0, hcap, hp⟩ := bl_at (blB hb S) hlt
      obtain ⟨b2, o2, p2, pc2, rfl, k0, hcap2, hp2⟩ := bl_at (blB hb T) hlt
      obtain ⟨z, hz⟩ : ∃ z, bs.getD j [] = z := ⟨_, rfl⟩
      rw [hz] at g0 hp hcap k0 hp2 hcap2
      obtain ⟨u, hu⟩ : ∃ u, z.length = u := ⟨_, rfl⟩
      rw [hu] at g0 hp hcap k0 hp2 hcap2
      have hc2 : u ≤ 9223372036854775807 := by have := hcap.1; have := hcap.2.1; omega
      have x3' := cellB hb x3
      have y3' := cellB hb y3
      have i1 : (0 : Int) ≤ j := by omega
      have i2 : (j : Int) < k := by omega
      clear hb hz hu hcap hcap2
      go_wp2_with fail
      have hB0 : Below wr.heap.size wr wr.drew := (Below.refl _ _).drew
      go_region_held3 (fun w' => w'.cell? ⟨w.heap.size, 3, none⟩ = some (.slice (some ⟨b1, o1, none⟩) k d) ∧ w'.cell? ⟨w.heap.size + 1, 3, none⟩ = some (.slice (some ⟨b2, o2, none⟩) k f) ∧ w'.cell? ⟨b1, o1 + j, none⟩ = some (.slice p u pc) ∧ w'.cell? ⟨b2, o2 + j, none⟩ = some (.slice p2 u pc2))
        (first | exact ⟨x3', y3', g0, k0⟩ | (exact ⟨cellB (by assumption) x3', cellB (by assumption) y3', cellB (by assumption) g0, cellB (by assumption) k0⟩))
        ((go_at_call 30; refine (refSameP_any p p2 u pc u pc2 z z _ (plB (by assumption) hp) (plB (by assumption) hp2) hc2).mono ?_; rw [samePB_refl]; rintro x w2 ⟨rfl, hb2⟩; have hb2' := below_from (by assumption) hb2))
      have HB2 := Lib.hid (below_from HB.out hb2')
      clear hb2 hb2' hB0 x3' y3' g0 k0
      go_wp2_with fail
      go_roundw
      case rel => exact ⟨j + 1, by omega, by go_num, HB2.out⟩
      case measure => simp [intOf]; omega
    · obtain rfl : j = k := by omega
      clear hb
      go_wp2
      go_ret
      exact boolPost_mk rfl (HB1.out.trans (HB.out.mono HB1.out.size))
end Go.Proofs.Yteojpdhmhjoeiaa
