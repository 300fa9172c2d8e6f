/- Package asm: may, Right. -/
import Derived.Test.YthcogkcjmhjjmaaDoorAsH
import Derived.Deep.DeepCutAuto
namespace Go.Proofs.YthcogkcjmhjjmaaDoor
open Go.ChangeShapes Go.WideShapes Go.ChangeAt Go.RowKit
open Gen

def opnd (i : Ins) (k : Nat) : Int := if k = 0 then i.2.1 else if k = 1 then i.2.2.1 else i.2.2.2
def kOk (i : Ins) (m : Int) (sg : Bs) (k : Nat) : Bool := if k < sg.length then fitsK (sg.getD k 0).toNat (opnd i k) m else decide (opnd i k = 0)
def mayB (i : Ins) (m : Int) : Bool := decide (0 ≤ i.1 ∧ i.1 < 27) && (List.range 3).all (kOk i m (opSign.getD i.1.toNat []))
theorem mayB_no {i : Ins} {m : Int} (h : ¬ (0 ≤ i.1 ∧ i.1 < 27)) : mayB i m = false := by simp only [mayB, decide_eq_false h, Bool.false_and]
theorem mayB_at {i : Ins} {m : Int} {k : Nat} (hk : k < 3) (h : kOk i m (opSign.getD i.1.toNat []) k = false) : mayB i m = false := by
  cases hm : mayB i m with
  | false => rfl
  | true =>
    simp only [mayB, Bool.and_eq_true, List.all_eq_true] at hm
    have := hm.2 k (List.mem_range.2 hk)
    rw [h] at this; cases this
theorem mayB_yes {i : Ins} {m : Int} (h0 : 0 ≤ i.1 ∧ i.1 < 27) (h : ∀ k, k < 3 → kOk i m (opSign.getD i.1.toNat []) k = true) : mayB i m = true := by
  simp only [mayB, Bool.and_eq_true, decide_eq_true_eq, List.all_eq_true]
  exact ⟨h0, fun k hk => h k (List.mem_range.1 hk)⟩

theorem arr3_0 (x y z : Value) (w : World) : (Instr.index 86 (.agg #[x, y, z]) (.int .i64 0)).run Tryd.prog w = .ok x w := by
  simp [Instr.index, run_underlying Tryd.underlying86, asIntOf, go_sem]
theorem arr3_1 (x y z : Value) (w : World) : (Instr.index 86 (.agg #[x, y, z]) (.int .i64 1)).run Tryd.prog w = .ok y w := by
  simp [Instr.index, run_underlying Tryd.underlying86, asIntOf, go_sem]
theorem arr3_2 (x y z : Value) (w : World) : (Instr.index 86 (.agg #[x, y, z]) (.int .i64 2)).run Tryd.prog w = .ok z w := by
  simp [Instr.index, run_underlying Tryd.underlying86, asIntOf, go_sem]

set_option maxRecDepth 100000 in
set_option maxHeartbeats 4000000 in
theorem may_any (i : Ins) (m : Int) (w : World) (G : Glob w) : Calls Tryd.prog 35 #[insV i, .int .i64 m] w (BoolPost (mayB i m) w) := by
  obtain ⟨op, a, b, c⟩ := i
  show Calls Tryd.prog 35 #[.agg #[.int .i64 op, .int .i64 a, .int .i64 b, .int .i64 c], .int .i64 m] w (BoolPost (mayB (op, a, b, c) m) w)
  by_cases h0 : 0 ≤ op ∧ op < 27
  · obtain ⟨k, rfl⟩ : ∃ k : Nat, op = (k : Int) := ⟨op.toNat, by omega⟩
    have hk : k < 27 := by omega
    obtain ⟨sg, hsg⟩ : ∃ sg, opSign.getD k [] = sg := ⟨_, rfl⟩
    obtain ⟨s1, s2⟩ := signs_ok k hk
    rw [hsg] at s1 s2
    have hop : (opSign.getD ((k : Int), a, b, c).1.toNat []) = sg := by rw [← hsg]; rfl
    have HOP := Lib.hid hop
    have H0 := Lib.hid h0
    obtain ⟨W, hW⟩ : ∃ W, W = w.alloc (Obj.cells #[.int .i64 k, .int .i64 a, .int .i64 b, .int .i64 c] 39) := ⟨_, rfl⟩
    have X : VarN W w.heap.size [.int .i64 k, .int .i64 a, .int .i64 b, .int .i64 c] := by rw [hW]; exact varN_new _ _ rfl
    have hB : Below w.heap.size w W := by rw [hW]; go_grown
    have xs := ops_sign (G.B hB) k hk
    rw [hsg] at xs
    have HB := Lib.hid hB
    have HW := Lib.hid hW
    have HX := Lib.hid X
    have i1 : (0 : Int) ≤ k := by omega
    have i2 : (k : Int) < 27 := by omega
    have i3 : ¬ (k : Int) < 0 := by omega
    have i4 : ¬ (27 : Int) ≤ k := by omega
    clear hsg hop h0 hW X hB s2 hk
    go_enter Tryd.func35, Tryd.ntmps35
    go_upto_region 1 with fail
    rw [← HW.out]
    have x0 := (HX.out 0 _ rfl).1
    have x1 := (HX.out 1 _ rfl).1
    have x2 := (HX.out 2 _ rfl).1
    have x3 := (HX.out 3 _ rfl).1
    go_wp2
    go_loop [28] (fun i => ∃ j : Nat, j ≤ 3 ∧ i = .int .i64 j ∧ Hid (∀ q, q < j → kOk (k, a, b, c) m sg q = true)) (fun i => 3 - (intOf i).toNat)
    case atStart => exact ⟨0, by omega, rfl, (show ∀ q, q < 0 → _ from fun q hq => by omega)⟩
    case round =>
      obtain ⟨j, hj, rfl, hok⟩ := hrel
      have hstep : ∀ {j : Nat}, (∀ q, q < j → kOk (k, a, b, c) m sg q = true) → kOk (k, a, b, c) m sg j = true → ∀ q, q < j + 1 → kOk (k, a, b, c) m sg q = true := fun h1 h2 q hq => by
        rcases Nat.lt_succ_iff_lt_or_eq.1 hq with h | rfl
        · exact h1 q h
        · exact h2
      clear x0 x1 x2 x3 xs
      rcases (show j = 0 ∨ j = 1 ∨ j = 2 ∨ j = 3 by omega) with rfl | rfl | rfl | rfl
      · have ai := fun w => arr3_0 (.int .i64 a) (.int .i64 b) (.int .i64 c) w
        by_cases hlt : 0 < sg.length
        · have hjs : 0 < (str sg).size := by rw [str_size]; exact hlt
          have hbt : (str sg)[0].toNat = (sg.getD 0 0).toNat := by rw [bytes_at, str_data]
          obtain ⟨ch, hch⟩ : ∃ ch, (str sg)[0].toNat = ch := ⟨_, rfl⟩
          have hv : kOk ((k : Int), a, b, c) m sg 0 = fitsK ch a m := by rw [kOk, if_pos hlt, ← hbt, hch]; rfl
          have HV := Lib.hid hv
          have j1 : ¬ sg = [] := by intro e; subst e; simp at hlt
          have j3 : 0 < sg.length := hlt
          have j2 : (0 : Int) < sg.length := by omega
          clear hv hbt hlt
          have hf : ∀ w', Calls Tryd.prog 57 #[.int .u8 ((str sg)[0].toNat : Nat), .int .i64 a, .int .i64 m] w' (PureB (fitsK ch a m) w') := fun w' => by rw [hch]; exact fits_k_any ch a m w'
          clear hch
          cases hb : fitsK ch a m with
          | true =>
            have HS := Lib.hid (hstep hok.out (by rw [HV.out]; exact hb))
            rw [hb] at hf
            clear hb hok hstep
            go_wp2_with fail
            refine (hf _).mono ?_
            rintro e w' ⟨rfl, h⟩
            cases h
            go_wp2
            go_round
            case rel => exact ⟨1, by omega, by go_num, HS.out⟩
            case measure => simp [intOf]
          | false =>
            have HS := Lib.hid (mayB_at (i := ((k : Int), a, b, c)) (m := m) (k := 0) (by omega) (by rw [HOP.out, HV.out]; exact hb))
            rw [hb] at hf
            clear hb hok hstep
            go_wp2_with fail
            refine (hf _).mono ?_
            rintro e w' ⟨rfl, h⟩
            cases h
            go_wp2
            go_ret
            exact boolPost_mk HS.out HB.out
        · have hv : kOk ((k : Int), a, b, c) m sg 0 = decide (a = 0) := by rw [kOk, if_neg hlt]; rfl
          have j1 : sg = [] := List.eq_nil_of_length_eq_zero (by omega)
          clear hlt
          by_cases hz : a = 0
          · have HS := Lib.hid (hstep hok.out (by rw [hv]; exact decide_eq_true hz))
            have q : (a != 0) = false := by simpa using hz
            clear hz hv hok hstep
            go_wp2
            go_round
            case rel => exact ⟨1, by omega, by go_num, HS.out⟩
            case measure => simp [intOf]
          · have HS := Lib.hid (mayB_at (i := ((k : Int), a, b, c)) (m := m) (k := 0) (by omega) (by rw [HOP.out, hv]; exact decide_eq_false hz))
            have q : (a != 0) = true := by simpa using hz
            clear hz hv hok hstep
            go_wp2
            go_ret
            exact boolPost_mk HS.out HB.out
      · have ai := fun w => arr3_1 (.int .i64 a) (.int .i64 b) (.int .i64 c) w
        by_cases hlt : 1 < sg.length
        · have hjs : 1 < (str sg).size := by rw [str_size]; exact hlt
          have hbt : (str sg)[1].toNat = (sg.getD 1 0).toNat := by rw [bytes_at, str_data]
          obtain ⟨ch, hch⟩ : ∃ ch, (str sg)[1].toNat = ch := ⟨_, rfl⟩
          have hv : kOk ((k : Int), a, b, c) m sg 1 = fitsK ch b m := by rw [kOk, if_pos hlt, ← hbt, hch]; rfl
          have HV := Lib.hid hv
          have j1 : ¬ (sg.length : Int) ≤ 1 := by omega
          have j2 : (1 : Int) < sg.length := by omega
          clear hv hbt hlt
          have hf : ∀ w', Calls Tryd.prog 57 #[.int .u8 ((str sg)[1].toNat : Nat), .int .i64 b, .int .i64 m] w' (PureB (fitsK ch b m) w') := fun w' => by rw [hch]; exact fits_k_any ch b m w'
          clear hch
          cases hb : fitsK ch b m with
          | true =>
            have HS := Lib.hid (hstep hok.out (by rw [HV.out]; exact hb))
            rw [hb] at hf
            clear hb hok hstep
            go_wp2_with fail
            refine (hf _).mono ?_
            rintro e w' ⟨rfl, h⟩
            cases h
            go_wp2
            go_round
            case rel => exact ⟨2, by omega, by go_num, HS.out⟩
            case measure => simp [intOf]
          | false =>
            have HS := Lib.hid (mayB_at (i := ((k : Int), a, b, c)) (m := m) (k := 1) (by omega) (by rw [HOP.out, HV.out]; exact hb))
            rw [hb] at hf
            clear hb hok hstep
            go_wp2_with fail
            refine (hf _).mono ?_
            rintro e w' ⟨rfl, h⟩
            cases h
            go_wp2
            go_ret
            exact boolPost_mk HS.out HB.out
        · have hv : kOk ((k : Int), a, b, c) m sg 1 = decide (b = 0) := by rw [kOk, if_neg hlt]; rfl
          have j1 : (sg.length : Int) ≤ 1 := by omega
          clear hlt
          by_cases hz : b = 0
          · have HS := Lib.hid (hstep hok.out (by rw [hv]; exact decide_eq_true hz))
            have q : (b != 0) = false := by simpa using hz
            clear hz hv hok hstep
            go_wp2
            go_round
            case rel => exact ⟨2, by omega, by go_num, HS.out⟩
            case measure => simp [intOf]
          · have HS := Lib.hid (mayB_at (i := ((k : Int), a, b, c)) (m := m) (k := 1) (by omega) (by rw [HOP.out, hv]; exact decide_eq_false hz))
            have q : (b != 0) = true := by simpa using hz
            clear hz hv hok hstep
            go_wp2
            go_ret
            exact boolPost_mk HS.out HB.out
      · have ai := fun w => arr3_2 (.int .i64 a) (.int .i64 b) (.int .i64 c) w
        by_cases hlt : 2 < sg.length
        · have hjs : 2 < (str sg).size := by rw [str_size]; exact hlt
          have hbt : (str sg)[2].toNat = (sg.getD 2 0).toNat := by rw [bytes_at, str_data]
          obtain ⟨ch, hch⟩ : ∃ ch, (str sg)[2].toNat = ch := ⟨_, rfl⟩
          have hv : kOk ((k : Int), a, b, c) m sg 2 = fitsK ch c m := by rw [kOk, if_pos hlt, ← hbt, hch]; rfl
          have HV := Lib.hid hv
          have j1 : ¬ (sg.length : Int) ≤ 2 := by omega
          have j2 : (2 : Int) < sg.length := by omega
          clear hv hbt hlt
          have hf : ∀ w', Calls Tryd.prog 57 #[.int .u8 ((str sg)[2].toNat : Nat), .int .i64 c, .int .i64 m] w' (PureB (fitsK ch c m) w') := fun w' => by rw [hch]; exact fits_k_any ch c m w'
          clear hch
          cases hb : fitsK ch c m with
          | true =>
            have HS := Lib.hid (hstep hok.out (by rw [HV.out]; exact hb))
            rw [hb] at hf
            clear hb hok hstep
            go_wp2_with fail
            refine (hf _).mono ?_
            rintro e w' ⟨rfl, h⟩
            cases h
            go_wp2
            go_round
            case rel => exact ⟨3, by omega, by go_num, HS.out⟩
            case measure => simp [intOf]
          | false =>
            have HS := Lib.hid (mayB_at (i := ((k : Int), a, b, c)) (m := m) (k := 2) (by omega) (by rw [HOP.out, HV.out]; exact hb))
            rw [hb] at hf
            clear hb hok hstep
            go_wp2_with fail
            refine (hf _).mono ?_
            rintro e w' ⟨rfl, h⟩
            cases h
            go_wp2
            go_ret
            exact boolPost_mk HS.out HB.out
        · have hv : kOk ((k : Int), a, b, c) m sg 2 = decide (c = 0) := by rw [kOk, if_neg hlt]; rfl
          have j1 : (sg.length : Int) ≤ 2 := by omega
          clear hlt
          by_cases hz : c = 0
          · have HS := Lib.hid (hstep hok.out (by rw [hv]; exact decide_eq_true hz))
            have q : (c != 0) = false := by simpa using hz
            clear hz hv hok hstep
            go_wp2
            go_round
            case rel => exact ⟨3, by omega, by go_num, HS.out⟩
            case measure => simp [intOf]
          · have HS := Lib.hid (mayB_at (i := ((k : Int), a, b, c)) (m := m) (k := 2) (by omega) (by rw [HOP.out, hv]; exact decide_eq_false hz))
            have q : (c != 0) = true := by simpa using hz
            clear hz hv hok hstep
            go_wp2
            go_ret
            exact boolPost_mk HS.out HB.out
      · have HS := Lib.hid (mayB_yes (i := ((k : Int), a, b, c)) (m := m) H0.out (fun q hq => by rw [HOP.out]; exact hok.out q hq))
        clear hok hstep
        go_wp2
        go_ret
        exact boolPost_mk HS.out HB.out
  · have HS := Lib.hid (mayB_no (i := (op, a, b, c)) (m := m) h0)
    go_enter Tryd.func35, Tryd.ntmps35
    go_wp2
    all_goals first
      | (exfalso; omega)
      | (go_ret; exact boolPost_mk HS.out (by go_grown))
end Go.Proofs.YthcogkcjmhjjmaaDoor
