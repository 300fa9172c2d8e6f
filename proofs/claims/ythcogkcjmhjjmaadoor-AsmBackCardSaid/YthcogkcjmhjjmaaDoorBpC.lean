/- respiteref05: May, Right. -/
import Derived.Test.YthcogkcjmhjjmaaDoorBpB
namespace Go.Proofs.YthcogkcjmhjjmaaDoor
open Go.ChangeShapes Go.WideShapes Go.ChangeAt Go.RowKit
open Gen

theorem names_ne : ∀ k, k < 27 → opName.getD k [] ≠ [] := by
  have h : (List.range 27).all (fun k => decide (opName.getD k [] ≠ [])) = true := by kernel_rfl
  intro k hk
  simpa using List.all_eq_true.1 h k (List.mem_range.2 hk)
set_option maxRecDepth 100000 in
set_option maxHeartbeats 8000000 in
theorem refMay5_any (i : Ins) (m : Int) (w : World) : Calls Tryd.prog 36 #[insV i, .int .i64 m] w (BoolPost (mayB i m) w) := by
  obtain ⟨op, a, b, c⟩ := i
  show Calls Tryd.prog 36 #[.agg #[.int .i64 op, .int .i64 a, .int .i64 b, .int .i64 c], .int .i64 m] w (BoolPost (mayB (op, a, b, c) m) w)
  obtain ⟨W, hW⟩ : ∃ W, W = w.alloc (Obj.cells #[.int .i64 op, .int .i64 a, .int .i64 b, .int .i64 c] 39) := ⟨_, rfl⟩
  have X : VarN W w.heap.size [.int .i64 op, .int .i64 a, .int .i64 b, .int .i64 c] := by rw [hW]; exact varN_new _ _ rfl
  have hB : Below w.heap.size w W := by rw [hW]; go_grown
  have HB := Lib.hid hB
  have HW := Lib.hid hW
  have HX := Lib.hid X
  clear hW X hB
  by_cases h0 : 0 ≤ op ∧ op < 27
  · obtain ⟨k, rfl⟩ : ∃ k : Nat, op = (k : Int) := ⟨op.toNat, by omega⟩
    have hk : k < 27 := by omega
    obtain ⟨sg, hsg⟩ : ∃ sg, opSign.getD k [] = sg := ⟨_, rfl⟩
    obtain ⟨nm, hnm⟩ : ∃ nm, opName.getD k [] = nm := ⟨_, rfl⟩
    have hne : nm.isEmpty = false := by rw [← Bool.not_eq_true, List.isEmpty_iff, ← hnm]; exact names_ne k hk
    obtain ⟨s1, s2⟩ := signs_ok k hk
    rw [hsg] at s1 s2
    have hop : (opSign.getD ((k : Int), a, b, c).1.toNat []) = sg := by rw [← hsg]; rfl
    have HOP := Lib.hid hop
    have HSC := Lib.hid s2
    have H0 := Lib.hid h0
    have hn1 := fun w' => refName_any k w' hk
    have hk1 := fun w' => refKinds_any k w' hk
    simp only [hnm] at hn1
    simp only [hsg] at hk1
    clear hsg hop h0 s2 hk hnm
    go_enter Tryd.func36, Tryd.ntmps36
    go_upto_region 1 with fail
    rw [← HW.out]
    have x0 := (HX.out 0 _ rfl).1
    have x1 := (HX.out 1 _ rfl).1
    have x2 := (HX.out 2 _ rfl).1
    have x3 := (HX.out 3 _ rfl).1
    go_wp2_with fail
    refine (hn1 _).mono ?_
    rintro e w1 ⟨rfl, hb1⟩
    have HX1 := Lib.hid (varN_B hb1 HX.out)
    have HBW := Lib.hid hb1
    clear hb1 x0 x1 x2 x3
    have x0 := (HX1.out 0 _ rfl).1
    have x1 := (HX1.out 1 _ rfl).1
    have x2 := (HX1.out 2 _ rfl).1
    have x3 := (HX1.out 3 _ rfl).1
    go_wp2_with fail
    refine (hk1 _).mono ?_
    rintro e w2 ⟨rfl, hb2⟩
    have HBW2 := Lib.hid (below_from HBW.out hb2)
    clear hb2 x0 x1 x2 x3 HBW HX1 hk1 hn1 hne
    go_wp2
    go_loopw [6] (fun i wr => ∃ j : Nat, j ≤ 3 ∧ i = .int .i64 j ∧ Hid (∀ q, q < j → kOk (k, a, b, c) m sg q = true) ∧ Hid (Below W.heap.size W wr)) (fun i _ => 3 - (intOf i).toNat)
    case atStart => exact ⟨0, by omega, rfl, (show ∀ q, q < 0 → _ from fun q hq => by omega), HBW2.out⟩
    case round =>
      clear HBW2
      obtain ⟨j, hj, rfl, hok, HBW⟩ := hrel
      have hstep : ∀ {j : Nat}, (∀ q, q < j → kOk (k, a, b, c) m sg q = true) → kOk (k, a, b, c) m sg j = true → ∀ q, q < j + 1 → kOk (k, a, b, c) m sg q = true := fun h1 h2 q hq => by
        rcases Nat.lt_succ_iff_lt_or_eq.1 hq with h | rfl
        · exact h1 q h
        · exact h2
      have HXR := Lib.hid (varN_B HBW.out HX.out)
      have x0 := (HXR.out 0 _ rfl).1
      have x1 := (HXR.out 1 _ rfl).1
      have x2 := (HXR.out 2 _ rfl).1
      have x3 := (HXR.out 3 _ rfl).1
      clear HXR
      rcases (show j = 0 ∨ j = 1 ∨ j = 2 ∨ j = 3 by omega) with rfl | rfl | rfl | rfl
      · have hoj : opnd ((k : Int), a, b, c) 0 = a := rfl
        by_cases hlt : 0 < sg.length
        · have hjs : 0 < (str sg).size := by rw [str_size]; exact hlt
          have hbt : (str sg)[0].toNat = (sg.getD 0 0).toNat := by rw [bytes_at, str_data]
          have hcc := HSC.out 0 hlt
          have hv : kOk ((k : Int), a, b, c) m sg 0 = fitsK (sg.getD 0 0).toNat a m := by rw [kOk, if_pos hlt]; rfl
          have j1 : ¬ sg = [] := by intro e; subst e; simp at hlt
          have j2 : 0 < sg.length := hlt
    
          clear hlt
          rcases hcc with hc | hc | hc
          · rw [hc] at hv hbt
            clear hc
            by_cases hlo : a < 0
            · have hf : kOk ((k : Int), a, b, c) m sg 0 = false := by rw [hv]; simp [fitsK]; omega
              clear hv hoj
              have HS := Lib.hid (mayB_at (i := ((k : Int), a, b, c)) (m := m) (k := 0) (by omega) (by rw [HOP.out]; exact (hf)))
              clear hok hstep
              go_wp2_with fail
              refine (refOpnd_any ((k : Int), a, b, c) 0 _ (by omega)).mono ?_
              rintro e w1 ⟨rfl, hb1⟩
              rw [show opnd ((k : Int), a, b, c) 0 = a from rfl]
              have HB2 := Lib.hid (below_from HB.out (below_from HBW.out hb1))
              clear hb1 HBW x0 x1 x2 x3
              go_wp2
              go_ret
              exact boolPost_mk HS.out HB2.out
            · by_cases hhi : 7 < a
              · have hf : kOk ((k : Int), a, b, c) m sg 0 = false := by rw [hv]; simp [fitsK]; omega
                clear hv hoj
                have HS := Lib.hid (mayB_at (i := ((k : Int), a, b, c)) (m := m) (k := 0) (by omega) (by rw [HOP.out]; exact (hf)))
                clear hok hstep
                go_wp2_with fail
                refine (refOpnd_any ((k : Int), a, b, c) 0 _ (by omega)).mono ?_
                rintro e w1 ⟨rfl, hb1⟩
                rw [show opnd ((k : Int), a, b, c) 0 = a from rfl]
                have HB2 := Lib.hid (below_from HB.out (below_from HBW.out hb1))
                clear hb1 HBW x0 x1 x2 x3
                go_wp2
                go_ret
                exact boolPost_mk HS.out HB2.out
              · have hf : kOk ((k : Int), a, b, c) m sg 0 = true := by rw [hv]; simp [fitsK]; omega
                clear hv hoj
                have HS := Lib.hid (hstep hok.out (hf))
                clear hok hstep
                go_wp2_with fail
                refine (refOpnd_any ((k : Int), a, b, c) 0 _ (by omega)).mono ?_
                rintro e w1 ⟨rfl, hb1⟩
                rw [show opnd ((k : Int), a, b, c) 0 = a from rfl]
                have HB2 := Lib.hid (below_from HBW.out hb1)
                clear hb1 HBW x0 x1 x2 x3
                go_wp2
                go_roundw
                case rel => exact ⟨1, by omega, by go_num, HS.out, HB2.out⟩
                case measure => simp [intOf]
          · rw [hc] at hv hbt
            clear hc
            by_cases hlo : a < -1000000000
            · have hf : kOk ((k : Int), a, b, c) m sg 0 = false := by rw [hv]; simp [fitsK]; omega
              clear hv hoj
              have HS := Lib.hid (mayB_at (i := ((k : Int), a, b, c)) (m := m) (k := 0) (by omega) (by rw [HOP.out]; exact (hf)))
              clear hok hstep
              go_wp2_with fail
              refine (refOpnd_any ((k : Int), a, b, c) 0 _ (by omega)).mono ?_
              rintro e w1 ⟨rfl, hb1⟩
              rw [show opnd ((k : Int), a, b, c) 0 = a from rfl]
              have HB2 := Lib.hid (below_from HB.out (below_from HBW.out hb1))
              clear hb1 HBW x0 x1 x2 x3
              go_wp2
              go_ret
              exact boolPost_mk HS.out HB2.out
            · by_cases hhi : 1000000000 < a
              · have hf : kOk ((k : Int), a, b, c) m sg 0 = false := by rw [hv]; simp [fitsK]; omega
                clear hv hoj
                have HS := Lib.hid (mayB_at (i := ((k : Int), a, b, c)) (m := m) (k := 0) (by omega) (by rw [HOP.out]; exact (hf)))
                clear hok hstep
                go_wp2_with fail
                refine (refOpnd_any ((k : Int), a, b, c) 0 _ (by omega)).mono ?_
                rintro e w1 ⟨rfl, hb1⟩
                rw [show opnd ((k : Int), a, b, c) 0 = a from rfl]
                have HB2 := Lib.hid (below_from HB.out (below_from HBW.out hb1))
                clear hb1 HBW x0 x1 x2 x3
                go_wp2
                go_ret
                exact boolPost_mk HS.out HB2.out
              · have hf : kOk ((k : Int), a, b, c) m sg 0 = true := by rw [hv]; simp [fitsK]; omega
                clear hv hoj
                have HS := Lib.hid (hstep hok.out (hf))
                clear hok hstep
                go_wp2_with fail
                refine (refOpnd_any ((k : Int), a, b, c) 0 _ (by omega)).mono ?_
                rintro e w1 ⟨rfl, hb1⟩
                rw [show opnd ((k : Int), a, b, c) 0 = a from rfl]
                have HB2 := Lib.hid (below_from HBW.out hb1)
                clear hb1 HBW x0 x1 x2 x3
                go_wp2
                go_roundw
                case rel => exact ⟨1, by omega, by go_num, HS.out, HB2.out⟩
                case measure => simp [intOf]
          · rw [hc] at hv hbt
            clear hc
            by_cases hlo : a < 0
            · have hf : kOk ((k : Int), a, b, c) m sg 0 = false := by rw [hv]; simp [fitsK]; omega
              clear hv hoj
              have HS := Lib.hid (mayB_at (i := ((k : Int), a, b, c)) (m := m) (k := 0) (by omega) (by rw [HOP.out]; exact (hf)))
              clear hok hstep
              go_wp2_with fail
              refine (refOpnd_any ((k : Int), a, b, c) 0 _ (by omega)).mono ?_
              rintro e w1 ⟨rfl, hb1⟩
              rw [show opnd ((k : Int), a, b, c) 0 = a from rfl]
              have HB2 := Lib.hid (below_from HB.out (below_from HBW.out hb1))
              clear hb1 HBW x0 x1 x2 x3
              go_wp2
              go_ret
              exact boolPost_mk HS.out HB2.out
            · by_cases hhi : m < a
              · have hf : kOk ((k : Int), a, b, c) m sg 0 = false := by rw [hv]; simp [fitsK]; omega
                clear hv hoj
                have HS := Lib.hid (mayB_at (i := ((k : Int), a, b, c)) (m := m) (k := 0) (by omega) (by rw [HOP.out]; exact (hf)))
                clear hok hstep
                go_wp2_with fail
                refine (refOpnd_any ((k : Int), a, b, c) 0 _ (by omega)).mono ?_
                rintro e w1 ⟨rfl, hb1⟩
                rw [show opnd ((k : Int), a, b, c) 0 = a from rfl]
                have HB2 := Lib.hid (below_from HB.out (below_from HBW.out hb1))
                clear hb1 HBW x0 x1 x2 x3
                go_wp2
                go_ret
                exact boolPost_mk HS.out HB2.out
              · have hf : kOk ((k : Int), a, b, c) m sg 0 = true := by rw [hv]; simp [fitsK]; omega
                clear hv hoj
                have HS := Lib.hid (hstep hok.out (hf))
                clear hok hstep
                go_wp2_with fail
                refine (refOpnd_any ((k : Int), a, b, c) 0 _ (by omega)).mono ?_
                rintro e w1 ⟨rfl, hb1⟩
                rw [show opnd ((k : Int), a, b, c) 0 = a from rfl]
                have HB2 := Lib.hid (below_from HBW.out hb1)
                clear hb1 HBW x0 x1 x2 x3
                go_wp2
                go_roundw
                case rel => exact ⟨1, by omega, by go_num, HS.out, HB2.out⟩
                case measure => simp [intOf]
        · have hv : kOk ((k : Int), a, b, c) m sg 0 = decide (a = 0) := by rw [kOk, if_neg hlt]; rfl
          have j1 : sg = [] := List.eq_nil_of_length_eq_zero (by omega)
          clear hlt hoj
          subst j1
          by_cases hz : a = 0
          · have hf : kOk ((k : Int), a, b, c) m [] 0 = true := by rw [hv]; exact decide_eq_true hz
            have q : (a != 0) = false := by simpa using hz
            clear hz hv
            have HS := Lib.hid (hstep hok.out (hf))
            clear hok hstep
            go_wp2_with fail
            refine (refOpnd_any ((k : Int), a, b, c) 0 _ (by omega)).mono ?_
            rintro e w1 ⟨rfl, hb1⟩
            rw [show opnd ((k : Int), a, b, c) 0 = a from rfl]
            have HB2 := Lib.hid (below_from HBW.out hb1)
            clear hb1 HBW x0 x1 x2 x3
            go_wp2
            go_roundw
            case rel => exact ⟨1, by omega, by go_num, HS.out, HB2.out⟩
            case measure => simp [intOf]
          · have hf : kOk ((k : Int), a, b, c) m [] 0 = false := by rw [hv]; exact decide_eq_false hz
            have q : (a != 0) = true := by simpa using hz
            clear hz hv
            have HS := Lib.hid (mayB_at (i := ((k : Int), a, b, c)) (m := m) (k := 0) (by omega) (by rw [HOP.out]; exact (hf)))
            clear hok hstep
            go_wp2_with fail
            refine (refOpnd_any ((k : Int), a, b, c) 0 _ (by omega)).mono ?_
            rintro e w1 ⟨rfl, hb1⟩
            rw [show opnd ((k : Int), a, b, c) 0 = a from rfl]
            have HB2 := Lib.hid (below_from HB.out (below_from HBW.out hb1))
            clear hb1 HBW x0 x1 x2 x3
            go_wp2
            go_ret
            exact boolPost_mk HS.out HB2.out
      · have hoj : opnd ((k : Int), a, b, c) 1 = b := rfl
        by_cases hlt : 1 < sg.length
        · have hjs : 1 < (str sg).size := by rw [str_size]; exact hlt
          have hbt : (str sg)[1].toNat = (sg.getD 1 0).toNat := by rw [bytes_at, str_data]
          have hcc := HSC.out 1 hlt
          have hv : kOk ((k : Int), a, b, c) m sg 1 = fitsK (sg.getD 1 0).toNat b m := by rw [kOk, if_pos hlt]; rfl
          have j1 : ¬ (sg.length : Int) ≤ 1 := by omega
          have j2 : 1 < sg.length := hlt
          have j3 : ((1 : Int)) < sg.length := by omega
          clear hlt
          rcases hcc with hc | hc | hc
          · rw [hc] at hv hbt
            clear hc
            by_cases hlo : b < 0
            · have hf : kOk ((k : Int), a, b, c) m sg 1 = false := by rw [hv]; simp [fitsK]; omega
              clear hv hoj
              have HS := Lib.hid (mayB_at (i := ((k : Int), a, b, c)) (m := m) (k := 1) (by omega) (by rw [HOP.out]; exact (hf)))
              clear hok hstep
              go_wp2_with fail
              refine (refOpnd_any ((k : Int), a, b, c) 1 _ (by omega)).mono ?_
              rintro e w1 ⟨rfl, hb1⟩
              rw [show opnd ((k : Int), a, b, c) 1 = b from rfl]
              have HB2 := Lib.hid (below_from HB.out (below_from HBW.out hb1))
              clear hb1 HBW x0 x1 x2 x3
              go_wp2
              go_ret
              exact boolPost_mk HS.out HB2.out
            · by_cases hhi : 7 < b
              · have hf : kOk ((k : Int), a, b, c) m sg 1 = false := by rw [hv]; simp [fitsK]; omega
                clear hv hoj
                have HS := Lib.hid (mayB_at (i := ((k : Int), a, b, c)) (m := m) (k := 1) (by omega) (by rw [HOP.out]; exact (hf)))
                clear hok hstep
                go_wp2_with fail
                refine (refOpnd_any ((k : Int), a, b, c) 1 _ (by omega)).mono ?_
                rintro e w1 ⟨rfl, hb1⟩
                rw [show opnd ((k : Int), a, b, c) 1 = b from rfl]
                have HB2 := Lib.hid (below_from HB.out (below_from HBW.out hb1))
                clear hb1 HBW x0 x1 x2 x3
                go_wp2
                go_ret
                exact boolPost_mk HS.out HB2.out
              · have hf : kOk ((k : Int), a, b, c) m sg 1 = true := by rw [hv]; simp [fitsK]; omega
                clear hv hoj
                have HS := Lib.hid (hstep hok.out (hf))
                clear hok hstep
                go_wp2_with fail
                refine (refOpnd_any ((k : Int), a, b, c) 1 _ (by omega)).mono ?_
                rintro e w1 ⟨rfl, hb1⟩
                rw [show opnd ((k : Int), a, b, c) 1 = b from rfl]
                have HB2 := Lib.hid (below_from HBW.out hb1)
                clear hb1 HBW x0 x1 x2 x3
                go_wp2
                go_roundw
                case rel => exact ⟨2, by omega, by go_num, HS.out, HB2.out⟩
                case measure => simp [intOf]
          · rw [hc] at hv hbt
            clear hc
            by_cases hlo : b < -1000000000
            · have hf : kOk ((k : Int), a, b, c) m sg 1 = false := by rw [hv]; simp [fitsK]; omega
              clear hv hoj
              have HS := Lib.hid (mayB_at (i := ((k : Int), a, b, c)) (m := m) (k := 1) (by omega) (by rw [HOP.out]; exact (hf)))
              clear hok hstep
              go_wp2_with fail
              refine (refOpnd_any ((k : Int), a, b, c) 1 _ (by omega)).mono ?_
              rintro e w1 ⟨rfl, hb1⟩
              rw [show opnd ((k : Int), a, b, c) 1 = b from rfl]
              have HB2 := Lib.hid (below_from HB.out (below_from HBW.out hb1))
              clear hb1 HBW x0 x1 x2 x3
              go_wp2
              go_ret
              exact boolPost_mk HS.out HB2.out
            · by_cases hhi : 1000000000 < b
              · have hf : kOk ((k : Int), a, b, c) m sg 1 = false := by rw [hv]; simp [fitsK]; omega
                clear hv hoj
                have HS := Lib.hid (mayB_at (i := ((k : Int), a, b, c)) (m := m) (k := 1) (by omega) (by rw [HOP.out]; exact (hf)))
                clear hok hstep
                go_wp2_with fail
                refine (refOpnd_any ((k : Int), a, b, c) 1 _ (by omega)).mono ?_
                rintro e w1 ⟨rfl, hb1⟩
                rw [show opnd ((k : Int), a, b, c) 1 = b from rfl]
                have HB2 := Lib.hid (below_from HB.out (below_from HBW.out hb1))
                clear hb1 HBW x0 x1 x2 x3
                go_wp2
                go_ret
                exact boolPost_mk HS.out HB2.out
              · have hf : kOk ((k : Int), a, b, c) m sg 1 = true := by rw [hv]; simp [fitsK]; omega
                clear hv hoj
                have HS := Lib.hid (hstep hok.out (hf))
                clear hok hstep
                go_wp2_with fail
                refine (refOpnd_any ((k : Int), a, b, c) 1 _ (by omega)).mono ?_
                rintro e w1 ⟨rfl, hb1⟩
                rw [show opnd ((k : Int), a, b, c) 1 = b from rfl]
                have HB2 := Lib.hid (below_from HBW.out hb1)
                clear hb1 HBW x0 x1 x2 x3
                go_wp2
                go_roundw
                case rel => exact ⟨2, by omega, by go_num, HS.out, HB2.out⟩
                case measure => simp [intOf]
          · rw [hc] at hv hbt
            clear hc
            by_cases hlo : b < 0
            · have hf : kOk ((k : Int), a, b, c) m sg 1 = false := by rw [hv]; simp [fitsK]; omega
              clear hv hoj
              have HS := Lib.hid (mayB_at (i := ((k : Int), a, b, c)) (m := m) (k := 1) (by omega) (by rw [HOP.out]; exact (hf)))
              clear hok hstep
              go_wp2_with fail
              refine (refOpnd_any ((k : Int), a, b, c) 1 _ (by omega)).mono ?_
              rintro e w1 ⟨rfl, hb1⟩
              rw [show opnd ((k : Int), a, b, c) 1 = b from rfl]
              have HB2 := Lib.hid (below_from HB.out (below_from HBW.out hb1))
              clear hb1 HBW x0 x1 x2 x3
              go_wp2
              go_ret
              exact boolPost_mk HS.out HB2.out
            · by_cases hhi : m < b
              · have hf : kOk ((k : Int), a, b, c) m sg 1 = false := by rw [hv]; simp [fitsK]; omega
                clear hv hoj
                have HS := Lib.hid (mayB_at (i := ((k : Int), a, b, c)) (m := m) (k := 1) (by omega) (by rw [HOP.out]; exact (hf)))
                clear hok hstep
                go_wp2_with fail
                refine (refOpnd_any ((k : Int), a, b, c) 1 _ (by omega)).mono ?_
                rintro e w1 ⟨rfl, hb1⟩
                rw [show opnd ((k : Int), a, b, c) 1 = b from rfl]
                have HB2 := Lib.hid (below_from HB.out (below_from HBW.out hb1))
                clear hb1 HBW x0 x1 x2 x3
                go_wp2
                go_ret
                exact boolPost_mk HS.out HB2.out
              · have hf : kOk ((k : Int), a, b, c) m sg 1 = true := by rw [hv]; simp [fitsK]; omega
                clear hv hoj
                have HS := Lib.hid (hstep hok.out (hf))
                clear hok hstep
                go_wp2_with fail
                refine (refOpnd_any ((k : Int), a, b, c) 1 _ (by omega)).mono ?_
                rintro e w1 ⟨rfl, hb1⟩
                rw [show opnd ((k : Int), a, b, c) 1 = b from rfl]
                have HB2 := Lib.hid (below_from HBW.out hb1)
                clear hb1 HBW x0 x1 x2 x3
                go_wp2
                go_roundw
                case rel => exact ⟨2, by omega, by go_num, HS.out, HB2.out⟩
                case measure => simp [intOf]
        · have hv : kOk ((k : Int), a, b, c) m sg 1 = decide (b = 0) := by rw [kOk, if_neg hlt]; rfl
          have j1 : (sg.length : Int) ≤ 1 := by omega
          clear hlt hoj
          by_cases hz : b = 0
          · have hf : kOk ((k : Int), a, b, c) m sg 1 = true := by rw [hv]; exact decide_eq_true hz
            have q : (b != 0) = false := by simpa using hz
            clear hz hv
            have HS := Lib.hid (hstep hok.out (hf))
            clear hok hstep
            go_wp2_with fail
            refine (refOpnd_any ((k : Int), a, b, c) 1 _ (by omega)).mono ?_
            rintro e w1 ⟨rfl, hb1⟩
            rw [show opnd ((k : Int), a, b, c) 1 = b from rfl]
            have HB2 := Lib.hid (below_from HBW.out hb1)
            clear hb1 HBW x0 x1 x2 x3
            go_wp2
            go_roundw
            case rel => exact ⟨2, by omega, by go_num, HS.out, HB2.out⟩
            case measure => simp [intOf]
          · have hf : kOk ((k : Int), a, b, c) m sg 1 = false := by rw [hv]; exact decide_eq_false hz
            have q : (b != 0) = true := by simpa using hz
            clear hz hv
            have HS := Lib.hid (mayB_at (i := ((k : Int), a, b, c)) (m := m) (k := 1) (by omega) (by rw [HOP.out]; exact (hf)))
            clear hok hstep
            go_wp2_with fail
            refine (refOpnd_any ((k : Int), a, b, c) 1 _ (by omega)).mono ?_
            rintro e w1 ⟨rfl, hb1⟩
            rw [show opnd ((k : Int), a, b, c) 1 = b from rfl]
            have HB2 := Lib.hid (below_from HB.out (below_from HBW.out hb1))
            clear hb1 HBW x0 x1 x2 x3
            go_wp2
            go_ret
            exact boolPost_mk HS.out HB2.out
      · have hoj : opnd ((k : Int), a, b, c) 2 = c := rfl
        by_cases hlt : 2 < sg.length
        · have hjs : 2 < (str sg).size := by rw [str_size]; exact hlt
          have hbt : (str sg)[2].toNat = (sg.getD 2 0).toNat := by rw [bytes_at, str_data]
          have hcc := HSC.out 2 hlt
          have hv : kOk ((k : Int), a, b, c) m sg 2 = fitsK (sg.getD 2 0).toNat c m := by rw [kOk, if_pos hlt]; rfl
          have j1 : ¬ (sg.length : Int) ≤ 2 := by omega
          have j2 : 2 < sg.length := hlt
          have j3 : ((2 : Int)) < sg.length := by omega
          clear hlt
          rcases hcc with hc | hc | hc
          · rw [hc] at hv hbt
            clear hc
            by_cases hlo : c < 0
            · have hf : kOk ((k : Int), a, b, c) m sg 2 = false := by rw [hv]; simp [fitsK]; omega
              clear hv hoj
              have HS := Lib.hid (mayB_at (i := ((k : Int), a, b, c)) (m := m) (k := 2) (by omega) (by rw [HOP.out]; exact (hf)))
              clear hok hstep
              go_wp2_with fail
              refine (refOpnd_any ((k : Int), a, b, c) 2 _ (by omega)).mono ?_
              rintro e w1 ⟨rfl, hb1⟩
              rw [show opnd ((k : Int), a, b, c) 2 = c from rfl]
              have HB2 := Lib.hid (below_from HB.out (below_from HBW.out hb1))
              clear hb1 HBW x0 x1 x2 x3
              go_wp2
              go_ret
              exact boolPost_mk HS.out HB2.out
            · by_cases hhi : 7 < c
              · have hf : kOk ((k : Int), a, b, c) m sg 2 = false := by rw [hv]; simp [fitsK]; omega
                clear hv hoj
                have HS := Lib.hid (mayB_at (i := ((k : Int), a, b, c)) (m := m) (k := 2) (by omega) (by rw [HOP.out]; exact (hf)))
                clear hok hstep
                go_wp2_with fail
                refine (refOpnd_any ((k : Int), a, b, c) 2 _ (by omega)).mono ?_
                rintro e w1 ⟨rfl, hb1⟩
                rw [show opnd ((k : Int), a, b, c) 2 = c from rfl]
                have HB2 := Lib.hid (below_from HB.out (below_from HBW.out hb1))
                clear hb1 HBW x0 x1 x2 x3
                go_wp2
                go_ret
                exact boolPost_mk HS.out HB2.out
              · have hf : kOk ((k : Int), a, b, c) m sg 2 = true := by rw [hv]; simp [fitsK]; omega
                clear hv hoj
                have HS := Lib.hid (hstep hok.out (hf))
                clear hok hstep
                go_wp2_with fail
                refine (refOpnd_any ((k : Int), a, b, c) 2 _ (by omega)).mono ?_
                rintro e w1 ⟨rfl, hb1⟩
                rw [show opnd ((k : Int), a, b, c) 2 = c from rfl]
                have HB2 := Lib.hid (below_from HBW.out hb1)
                clear hb1 HBW x0 x1 x2 x3
                go_wp2
                go_roundw
                case rel => exact ⟨3, by omega, by go_num, HS.out, HB2.out⟩
                case measure => simp [intOf]
          · rw [hc] at hv hbt
            clear hc
            by_cases hlo : c < -1000000000
            · have hf : kOk ((k : Int), a, b, c) m sg 2 = false := by rw [hv]; simp [fitsK]; omega
              clear hv hoj
              have HS := Lib.hid (mayB_at (i := ((k : Int), a, b, c)) (m := m) (k := 2) (by omega) (by rw [HOP.out]; exact (hf)))
              clear hok hstep
              go_wp2_with fail
              refine (refOpnd_any ((k : Int), a, b, c) 2 _ (by omega)).mono ?_
              rintro e w1 ⟨rfl, hb1⟩
              rw [show opnd ((k : Int), a, b, c) 2 = c from rfl]
              have HB2 := Lib.hid (below_from HB.out (below_from HBW.out hb1))
              clear hb1 HBW x0 x1 x2 x3
              go_wp2
              go_ret
              exact boolPost_mk HS.out HB2.out
            · by_cases hhi : 1000000000 < c
              · have hf : kOk ((k : Int), a, b, c) m sg 2 = false := by rw [hv]; simp [fitsK]; omega
                clear hv hoj
                have HS := Lib.hid (mayB_at (i := ((k : Int), a, b, c)) (m := m) (k := 2) (by omega) (by rw [HOP.out]; exact (hf)))
                clear hok hstep
                go_wp2_with fail
                refine (refOpnd_any ((k : Int), a, b, c) 2 _ (by omega)).mono ?_
                rintro e w1 ⟨rfl, hb1⟩
                rw [show opnd ((k : Int), a, b, c) 2 = c from rfl]
                have HB2 := Lib.hid (below_from HB.out (below_from HBW.out hb1))
                clear hb1 HBW x0 x1 x2 x3
                go_wp2
                go_ret
                exact boolPost_mk HS.out HB2.out
              · have hf : kOk ((k : Int), a, b, c) m sg 2 = true := by rw [hv]; simp [fitsK]; omega
                clear hv hoj
                have HS := Lib.hid (hstep hok.out (hf))
                clear hok hstep
                go_wp2_with fail
                refine (refOpnd_any ((k : Int), a, b, c) 2 _ (by omega)).mono ?_
                rintro e w1 ⟨rfl, hb1⟩
                rw [show opnd ((k : Int), a, b, c) 2 = c from rfl]
                have HB2 := Lib.hid (below_from HBW.out hb1)
                clear hb1 HBW x0 x1 x2 x3
                go_wp2
                go_roundw
                case rel => exact ⟨3, by omega, by go_num, HS.out, HB2.out⟩
                case measure => simp [intOf]
          · rw [hc] at hv hbt
            clear hc
            by_cases hlo : c < 0
            · have hf : kOk ((k : Int), a, b, c) m sg 2 = false := by rw [hv]; simp [fitsK]; omega
              clear hv hoj
              have HS := Lib.hid (mayB_at (i := ((k : Int), a, b, c)) (m := m) (k := 2) (by omega) (by rw [HOP.out]; exact (hf)))
              clear hok hstep
              go_wp2_with fail
              refine (refOpnd_any ((k : Int), a, b, c) 2 _ (by omega)).mono ?_
              rintro e w1 ⟨rfl, hb1⟩
              rw [show opnd ((k : Int), a, b, c) 2 = c from rfl]
              have HB2 := Lib.hid (below_from HB.out (below_from HBW.out hb1))
              clear hb1 HBW x0 x1 x2 x3
              go_wp2
              go_ret
              exact boolPost_mk HS.out HB2.out
            · by_cases hhi : m < c
              · have hf : kOk ((k : Int), a, b, c) m sg 2 = false := by rw [hv]; simp [fitsK]; omega
                clear hv hoj
                have HS := Lib.hid (mayB_at (i := ((k : Int), a, b, c)) (m := m) (k := 2) (by omega) (by rw [HOP.out]; exact (hf)))
                clear hok hstep
                go_wp2_with fail
                refine (refOpnd_any ((k : Int), a, b, c) 2 _ (by omega)).mono ?_
                rintro e w1 ⟨rfl, hb1⟩
                rw [show opnd ((k : Int), a, b, c) 2 = c from rfl]
                have HB2 := Lib.hid (below_from HB.out (below_from HBW.out hb1))
                clear hb1 HBW x0 x1 x2 x3
                go_wp2
                go_ret
                exact boolPost_mk HS.out HB2.out
              · have hf : kOk ((k : Int), a, b, c) m sg 2 = true := by rw [hv]; simp [fitsK]; omega
                clear hv hoj
                have HS := Lib.hid (hstep hok.out (hf))
                clear hok hstep
                go_wp2_with fail
                refine (refOpnd_any ((k : Int), a, b, c) 2 _ (by omega)).mono ?_
                rintro e w1 ⟨rfl, hb1⟩
                rw [show opnd ((k : Int), a, b, c) 2 = c from rfl]
                have HB2 := Lib.hid (below_from HBW.out hb1)
                clear hb1 HBW x0 x1 x2 x3
                go_wp2
                go_roundw
                case rel => exact ⟨3, by omega, by go_num, HS.out, HB2.out⟩
                case measure => simp [intOf]
        · have hv : kOk ((k : Int), a, b, c) m sg 2 = decide (c = 0) := by rw [kOk, if_neg hlt]; rfl
          have j1 : (sg.length : Int) ≤ 2 := by omega
          clear hlt hoj
          by_cases hz : c = 0
          · have hf : kOk ((k : Int), a, b, c) m sg 2 = true := by rw [hv]; exact decide_eq_true hz
            have q : (c != 0) = false := by simpa using hz
            clear hz hv
            have HS := Lib.hid (hstep hok.out (hf))
            clear hok hstep
            go_wp2_with fail
            refine (refOpnd_any ((k : Int), a, b, c) 2 _ (by omega)).mono ?_
            rintro e w1 ⟨rfl, hb1⟩
            rw [show opnd ((k : Int), a, b, c) 2 = c from rfl]
            have HB2 := Lib.hid (below_from HBW.out hb1)
            clear hb1 HBW x0 x1 x2 x3
            go_wp2
            go_roundw
            case rel => exact ⟨3, by omega, by go_num, HS.out, HB2.out⟩
            case measure => simp [intOf]
          · have hf : kOk ((k : Int), a, b, c) m sg 2 = false := by rw [hv]; exact decide_eq_false hz
            have q : (c != 0) = true := by simpa using hz
            clear hz hv
            have HS := Lib.hid (mayB_at (i := ((k : Int), a, b, c)) (m := m) (k := 2) (by omega) (by rw [HOP.out]; exact (hf)))
            clear hok hstep
            go_wp2_with fail
            refine (refOpnd_any ((k : Int), a, b, c) 2 _ (by omega)).mono ?_
            rintro e w1 ⟨rfl, hb1⟩
            rw [show opnd ((k : Int), a, b, c) 2 = c from rfl]
            have HB2 := Lib.hid (below_from HB.out (below_from HBW.out hb1))
            clear hb1 HBW x0 x1 x2 x3
            go_wp2
            go_ret
            exact boolPost_mk HS.out HB2.out
      · have HS := Lib.hid (mayB_yes (i := ((k : Int), a, b, c)) (m := m) H0.out (fun q hq => by rw [HOP.out]; exact hok.out q hq))
        have HB2 := Lib.hid (below_from HB.out HBW.out)
        clear hok hstep HBW
        go_wp2
        go_ret
        exact boolPost_mk HS.out HB2.out
  · have HS := Lib.hid (mayB_no (i := (op, a, b, c)) (m := m) h0)
    go_enter Tryd.func36, Tryd.ntmps36
    go_upto_region 1 with fail
    rw [← HW.out]
    have x0 := (HX.out 0 _ rfl).1
    have x1 := (HX.out 1 _ rfl).1
    have x2 := (HX.out 2 _ rfl).1
    have x3 := (HX.out 3 _ rfl).1
    go_wp2_with fail
    refine (refName_no op _ h0).mono ?_
    rintro e w1 ⟨rfl, hb1⟩
    have HB1 := Lib.hid (below_from HB.out hb1)
    clear hb1 x0 x1 x2 x3
    go_wp2
    go_ret
    exact boolPost_mk HS.out HB1.out
end Go.Proofs.YthcogkcjmhjjmaaDoor
