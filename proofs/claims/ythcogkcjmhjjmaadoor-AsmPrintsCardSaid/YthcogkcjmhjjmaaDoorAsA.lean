/- Package asm: strings as lists of bytes; isDigit, isName, readRegister, fits. -/
import Derived.Test.YthcogkcjmhjjmaaDoorGen
import Derived.Test.YthcogkcjmhjjmaaDoorWd
import Derived.Test.YthcogkcjmhjjmaaDoorMathK
namespace Go.Proofs.YthcogkcjmhjjmaaDoor
open Go.ChangeShapes Go.WideShapes Go.ChangeAt Go.RowKit
open Gen

theorem bytes_size (s : ByteArray) : s.size = s.data.toList.length := Array.length_toList.symm
theorem bytes_at (s : ByteArray) (i : Nat) (h : i < s.size) : s[i]'h = s.data.toList.getD i 0 := by
  have h' : i < s.data.size := h
  rw [show s[i]'h = s.data[i]'h' from rfl, List.getD_eq_getElem?_getD, Array.getElem?_toList, Array.getElem?_eq_getElem h']
  rfl
theorem bytes_nil (s : ByteArray) : s.toList = [] ↔ s.data.toList = [] := by
  rw [ByteArray.toList_eq]
theorem isDigit_any (b : Int) (w : World) : Calls Tryd.prog 59 #[.int .u8 b] w (PureB (decide (48 ≤ b ∧ b ≤ 57)) w) := by
  go_enter Tryd.func59, Tryd.ntmps59
  go_wp2
  all_goals
    go_ret
    refine pureB_mk ?_
    rw [Bool.eq_iff_iff]
    simp
    try omega

set_option maxHeartbeats 1000000 in
theorem readRegister_any (s : ByteArray) (w : World) : Calls Tryd.prog 45 #[.string s] w fun e w' => e = .returned (.tuple #[.int .i64 (regE s.data.toList).1, .int .i64 (regE s.data.toList).2]) ∧ w' = w := by
  by_cases h2 : s.size = 2
  · have e0 := bytes_at s 0 (by omega)
    have e1 := bytes_at s 1 (by omega)
    have h3 : ((s.size : Int) == 2) = true := by simp; omega
    have h4 : (1 : Int) < s.size := by omega
    have h5 : (0 : Int) < s.size := by omega
    by_cases h : s[0].toNat = 114 ∧ 48 ≤ s[1].toNat ∧ s[1].toNat ≤ 55
    · have HE := Lib.hid (show regE s.data.toList = ((s[1].toNat : Int) - 48, 0) by have hl := bytes_size s; rw [regE, ← e0, ← e1, if_pos ⟨by omega, h⟩])
      obtain ⟨k1, k3, k4⟩ := h
      have i1 : (s[0].toNat : Int) = 114 := by omega
      have i2 : ¬ ((s[1].toNat : Int) < 48) := by omega
      have i3 : ¬ (55 < (s[1].toNat : Int)) := by omega
      clear k1 k3 k4 e0 e1
      go_enter Tryd.func45, Tryd.ntmps45
      go_wp2
      all_goals
        first
          | (exfalso; omega)
          | (go_ret2; rw [HE.out]; exact ⟨rfl, rfl⟩)
    · have HE := Lib.hid (show regE s.data.toList = (0, 3) by rw [regE, ← e0, ← e1, if_neg]; intro hh; exact h hh.2)
      have hc : ¬ (s[0].toNat : Int) = 114 ∨ (s[0].toNat : Int) = 114 ∧ (s[1].toNat : Int) < 48 ∨ (s[0].toNat : Int) = 114 ∧ ¬ (s[1].toNat : Int) < 48 ∧ 55 < (s[1].toNat : Int) := by
        omega
      clear h e0 e1
      rcases hc with i1 | ⟨i1, i2⟩ | ⟨i1, i2, i3⟩
      all_goals
        go_enter Tryd.func45, Tryd.ntmps45
        go_wp2
        all_goals
          first
            | (exfalso; omega)
            | (go_ret2; rw [HE.out]; exact ⟨rfl, rfl⟩)
  · have HE := Lib.hid (show regE s.data.toList = (0, 3) by simp only [regE]; rw [if_neg]; intro e; rw [← bytes_size s] at e; exact h2 e.1)
    have h3 : ¬ (s.size : Int) = 2 := by omega
    clear h2
    go_enter Tryd.func45, Tryd.ntmps45
    go_wp2
    all_goals
      first
        | (exfalso; omega)
        | (go_ret2; rw [HE.out]; exact ⟨rfl, rfl⟩)

set_option maxHeartbeats 1000000 in
theorem fits_k_any (b v m : Int) (w : World) : Calls Tryd.prog 57 #[.int .u8 b, .int .i64 v, .int .i64 m] w (PureB (fitsK b v m) w) := by
  by_cases h1 : b = 114
  · subst h1
    go_enter Tryd.func57, Tryd.ntmps57
    go_wp2
    all_goals
      go_ret
      refine pureB_mk ?_
      rw [Bool.eq_iff_iff]
      simp [fitsK]
      try omega
  · by_cases h2 : b = 110
    · subst h2
      go_enter Tryd.func57, Tryd.ntmps57
      go_wp2
      all_goals
        go_ret
        refine pureB_mk ?_
        rw [Bool.eq_iff_iff]
        simp [fitsK]
        try omega
    · have e1 : (b == 114) = false := by simpa using h1
      have e2 : (b == 110) = false := by simpa using h2
      have HF := Lib.hid (show fitsK b v m = decide (0 ≤ v ∧ v ≤ m) by rw [fitsK, if_neg h1, if_neg h2])
      clear h1 h2
      go_enter Tryd.func57, Tryd.ntmps57
      go_wp2
      all_goals
        go_ret
        refine pureB_mk ?_
        rw [HF.out]
        rw [Bool.eq_iff_iff]
        simp
        try omega

theorem digB_int (b : UInt8) : decide (48 ≤ (b.toNat : Int) ∧ (b.toNat : Int) ≤ 57) = digB b := by
  rw [digB, Bool.eq_iff_iff]; simp; omega
set_option maxRecDepth 100000 in
set_option maxHeartbeats 4000000 in
theorem isName_any (s : ByteArray) (w : World) : Calls Tryd.prog 44 #[.string s] w (PureB (nameB s.data.toList) w) := by
  have hl := bytes_size s
  by_cases h0 : s.size = 0
  · have hn : s.toList.isEmpty = true := by rw [List.isEmpty_iff, bytes_nil]; exact List.length_eq_zero_iff.1 (by omega)
    have HE := Lib.hid (show nameB s.data.toList = false from nameB_no (.inl (by omega)))
    clear h0 hl
    go_enter Tryd.func44, Tryd.ntmps44
    go_wp2
    all_goals
      go_ret
      rw [HE.out]
      exact pureB_mk rfl
  · have hn : s.toList.isEmpty = false := by
      rw [← Bool.not_eq_true, List.isEmpty_iff, bytes_nil]; intro e; rw [e] at hl; exact h0 hl
    by_cases h1 : 12 < s.size
    · have i1 : (12 : Int) < s.size := by omega
      have HE := Lib.hid (show nameB s.data.toList = false from nameB_no (.inr (.inl (by omega))))
      clear h0 hl h1
      go_enter Tryd.func44, Tryd.ntmps44
      go_wp2
      all_goals
        go_ret
        rw [HE.out]
        exact pureB_mk rfl
    · have i1 : ¬ (12 : Int) < s.size := by omega
      have i2 : 0 < s.size := by omega
      have i3 : (0 : Int) < s.size := by omega
      have i4 : s.size ≤ 12 := by omega
      have i5 : s[0] = s.data.toList.getD 0 0 := bytes_at s 0 i2
      have HL := Lib.hid hl
      clear h0 hl h1
      cases hd : digB (s.data.toList.getD 0 0) with
      | true =>
        have HE := Lib.hid (show nameB s.data.toList = false from nameB_no (.inr (.inr (.inl hd))))
        have HD := Lib.hid hd
        have I5 := Lib.hid i5
        clear hd i5
        go_enter Tryd.func44, Tryd.ntmps44
        go_wp2_with (go_at_call 59; refine (isDigit_any _ _).mono ?_; rintro e w' ⟨rfl, rfl⟩; rw [digB_int, I5.out, HD.out])
        go_ret
        rw [HE.out]
        exact pureB_mk rfl
      | false =>
        have HD := Lib.hid hd
        have I5 := Lib.hid i5
        clear hd i5
        go_enter Tryd.func44, Tryd.ntmps44
        go_wp2_with (go_at_call 59; refine (isDigit_any _ _).mono ?_; rintro e w' ⟨rfl, rfl⟩; rw [digB_int, I5.out, HD.out])
        go_loop [18] (fun i => ∃ k : Nat, k ≤ s.size ∧ i = .int .i64 k ∧ Hid (okTo s.data.toList k)) (fun i => s.size - (intOf i).toNat)
        case atStart => exact ⟨0, by omega, rfl, fun i hi => by omega⟩
        case round =>
          obtain ⟨k, hk, rfl, ho⟩ := hrel
          by_cases hlt : k < s.size
          · have j1 : (k : Int) < s.size := by omega
            have j2 : (0 : Int) ≤ k := by omega
            have I6 := Lib.hid (bytes_at s k hlt)
            obtain ⟨b, hb⟩ : ∃ b, s[k] = b := ⟨_, rfl⟩
            rw [hb] at I6
            have HB := Lib.hid hb
            cases hd : digB b with
            | true =>
              have HD2 := Lib.hid hd
              clear hd hb
              go_wp2_with (go_at_call 59; refine (isDigit_any _ _).mono ?_; rintro e w' ⟨rfl, rfl⟩; rw [digB_int, HB.out, HD2.out])
              go_round
              case rel => exact ⟨k + 1, by omega, by go_num, okTo_succ ho.out (by rw [← I6.out, HD2.out]; rfl)⟩
              case measure => simp [intOf]; omega
            | false =>
              have HD2 := Lib.hid hd
              clear hd
              by_cases hlo : 97 ≤ b.toNat ∧ b.toNat ≤ 122
              · have HOK := Lib.hid (show (digB (s.data.toList.getD k 0) || lowB (s.data.toList.getD k 0)) = true by rw [← I6.out]; simp [lowB, hlo])
                have q1 : ¬ ((s[k].toNat : Int) < 97) := by rw [hb]; omega
                have q2 : ¬ (122 < (s[k].toNat : Int)) := by rw [hb]; omega
                clear hlo hb
                go_wp2_with (go_at_call 59; refine (isDigit_any _ _).mono ?_; rintro e w' ⟨rfl, rfl⟩; rw [digB_int, HB.out, HD2.out])
                go_round
                case rel => exact ⟨k + 1, by omega, by go_num, okTo_succ ho.out HOK.out⟩
                case measure => simp [intOf]; omega
              · have HOK := Lib.hid (show (digB (s.data.toList.getD k 0) || lowB (s.data.toList.getD k 0)) = false by rw [← I6.out, HD2.out]; simp only [lowB, Bool.false_or, decide_eq_false_iff_not]; exact hlo)
                have q : (s[k].toNat : Int) < 97 ∨ (¬ (s[k].toNat : Int) < 97 ∧ 122 < (s[k].toNat : Int)) := by rw [hb]; omega
                clear hlo hb
                rcases q with q | ⟨q, q'⟩
                all_goals
                  go_wp2_with (go_at_call 59; refine (isDigit_any _ _).mono ?_; rintro e w' ⟨rfl, rfl⟩; rw [digB_int, HB.out, HD2.out])
                  go_ret
                  exact pureB_mk (nameB_no (.inr (.inr (.inr ⟨k, by rw [← HL.out]; exact hlt, HOK.out⟩))))
          · obtain rfl : k = s.size := by omega
            go_wp2
            go_ret
            exact pureB_mk (nameB_yes (by rw [← HL.out]; exact i2) (by rw [← HL.out]; exact i4) HD.out (by rw [← HL.out]; exact ho.out))
end Go.Proofs.YthcogkcjmhjjmaaDoor
