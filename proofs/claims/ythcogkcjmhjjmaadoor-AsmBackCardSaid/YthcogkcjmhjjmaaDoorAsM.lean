/- The document's own reading (respiteref05): label, isName. -/
import Derived.Test.YthcogkcjmhjjmaaDoorAsA
import Derived.Test.YthcogkcjmhjjmaaDoorMathR
namespace Go.Proofs.YthcogkcjmhjjmaaDoor
open Go.ChangeShapes Go.WideShapes Go.ChangeAt Go.RowKit
open Gen

theorem suf58 (l : Bs) : Lib.hasSuffix l [58] = decide (1 ≤ l.length ∧ l.getD (l.length - 1) 0 = 58) := by
  rw [Bool.eq_iff_iff, decide_eq_true_iff, Lib.hasSuffix, List.isSuffixOf_iff_suffix]
  constructor
  · rintro ⟨p, rfl⟩
    simp
  · rintro ⟨h1, h2⟩
    have hne : l ≠ [] := by intro e; subst e; simp at h1
    refine ⟨l.dropLast, ?_⟩
    have h3 := List.dropLast_concat_getLast hne
    rw [List.getLast_eq_getElem] at h3
    rw [List.getD_eq_getElem?_getD, List.getElem?_eq_getElem (by omega)] at h2
    have h4 : l[l.length - 1] = 58 := h2
    rw [h4] at h3
    exact h3
theorem refLabel_any (s : ByteArray) (w : World) (hs : s.size ≤ 9223372036854775807) : Calls Tryd.prog 27 #[.string s] w (PureB (labB s.data.toList) w) := by
  have hl := bytes_size s
  by_cases h0 : s.size = 0
  · have HE := Lib.hid (show labB s.data.toList = false by rw [labB, suf58, decide_eq_false_iff_not]; omega)
    have k0 : (s.size : Int) = 0 := by omega
    clear h0 hl
    go_enter Tryd.func27, Tryd.ntmps27
    go_wp2
    all_goals
      go_ret
      rw [HE.out]
      exact pureB_mk rfl
  · obtain ⟨m, hm⟩ : ∃ m, s.size = m + 1 := ⟨s.size - 1, by omega⟩
    have k0 : (0 : Int) < s.size := by omega
    have k1 : (s.size : Int) - 1 = (m : Int) := by omega
    have k2 : (m : Int) < s.size := by omega
    have hms : m < s.size := by omega
    have e0 := bytes_at s m hms
    have HE := Lib.hid (show labB s.data.toList = decide ((s[m]'hms).toNat = 58) by
      rw [labB, suf58, e0, Bool.eq_iff_iff, decide_eq_true_iff, decide_eq_true_iff, ← hl, hm, Nat.add_sub_cancel, ← UInt8.toNat_inj]
      exact ⟨fun h => h.2, fun h => ⟨by omega, h⟩⟩)
    have k3 : (m : Int) ≤ 9223372036854775807 := by omega
    have k4 : (0 : Int) ≤ m := by omega
    have HM := Lib.hid hm
    clear e0 h0 hl hm hs
    go_enter Tryd.func27, Tryd.ntmps27
    go_wp2
    all_goals
      go_ret
      rw [HE.out]
      refine pureB_mk ?_
      rw [Bool.eq_iff_iff]
      simp
      try omega

theorem nameB_iff (l : Bs) : nameB l = true ↔ 1 ≤ l.length ∧ l.length ≤ 12 ∧ lowB (l.getD 0 0) = true ∧ okTo l l.length := by
  rw [nameB, Bool.and_eq_true, Bool.and_eq_true, decide_eq_true_iff, okTo_all]
  constructor
  · rintro ⟨⟨⟨h1, h2⟩, h3⟩, h4⟩
    refine ⟨h1, h2, ?_, h4⟩
    have h5 := okTo_all.2 h4 0 h1
    rw [Bool.not_eq_true'] at h3
    rw [h3, Bool.false_or] at h5
    exact h5
  · rintro ⟨h1, h2, h3, h4⟩
    refine ⟨⟨⟨h1, h2⟩, ?_⟩, h4⟩
    rw [Bool.not_eq_true']
    simp only [lowB, decide_eq_true_iff] at h3
    simp only [digB, decide_eq_false_iff_not]
    omega
theorem refIsName_any (s : ByteArray) (w : World) : Calls Tryd.prog 28 #[.string s] w (PureB (nameB s.data.toList) w) := by
  have hl := bytes_size s
  have hn := nameB_iff s.data.toList
  by_cases h0 : s.size < 1
  · have k0 : (s.size : Int) < 1 := by omega
    have HE := Lib.hid (show nameB s.data.toList = false by rw [← Bool.not_eq_true, hn]; omega)
    clear h0 hl hn
    go_enter Tryd.func28, Tryd.ntmps28
    go_wp2
    all_goals
      go_ret
      rw [HE.out]
      exact pureB_mk rfl
  · have k0 : ¬ (s.size : Int) < 1 := by omega
    by_cases h1 : 12 < s.size
    · have k1 : (12 : Int) < s.size := by omega
      have HE := Lib.hid (show nameB s.data.toList = false by rw [← Bool.not_eq_true, hn]; omega)
      clear h0 h1 hl hn
      go_enter Tryd.func28, Tryd.ntmps28
      go_wp2
      all_goals
        go_ret
        rw [HE.out]
        exact pureB_mk rfl
    · have k1 : ¬ (12 : Int) < s.size := by omega
      have k2 : (0 : Int) < s.size := by omega
      have i2 : 0 < s.size := by omega
      have i5 := bytes_at s 0 i2
      by_cases hlo : 97 ≤ s[0].toNat ∧ s[0].toNat ≤ 122
      · have k3 : ¬ (s[0].toNat : Int) < 97 := by omega
        have k4 : ¬ 122 < (s[0].toNat : Int) := by omega
        have HY := Lib.hid (show okTo s.data.toList s.size → nameB s.data.toList = true by
          intro h; rw [hn]; exact ⟨by omega, by omega, by rw [← i5]; simp [lowB, hlo], by rw [← hl]; exact h⟩)
        have HN := Lib.hid (show (∃ i, i < s.size ∧ (digB (s.data.toList.getD i 0) || lowB (s.data.toList.getD i 0)) = false) → nameB s.data.toList = false by
          rintro ⟨i, hi, h⟩; rw [← Bool.not_eq_true, hn]; rintro ⟨-, -, -, q⟩; rw [q i (by omega)] at h; cases h)
        have h12 : s.size ≤ 12 := by omega
        clear h0 h1 hl hn i5 hlo
        go_enter Tryd.func28, Tryd.ntmps28
        go_wp2

        go_loop [3] (fun i => ∃ k : Nat, k ≤ s.size ∧ i = .int .i64 k ∧ Hid (okTo s.data.toList k)) (fun i => s.size - (intOf i).toNat)
        case atStart => exact ⟨0, by omega, rfl, fun i hi => by omega⟩
        case round =>
          obtain ⟨k, hk, rfl, ho⟩ := hrel
          by_cases hlt : k < s.size
          · have j1 : (k : Int) < s.size := by omega
            have j2 : (0 : Int) ≤ k := by omega
            have I6 := Lib.hid (bytes_at s k hlt)
            obtain ⟨b, hb⟩ : ∃ b, s[k] = b := ⟨_, rfl⟩
            rw [hb] at I6
            by_cases hd : (48 ≤ b.toNat ∧ b.toNat ≤ 57) ∨ (97 ≤ b.toNat ∧ b.toNat ≤ 122)
            · have HOK := Lib.hid (show (digB (s.data.toList.getD k 0) || lowB (s.data.toList.getD k 0)) = true by rw [← I6.out]; simpa [digB, lowB] using hd)
              rcases hd with ⟨d1, d2⟩ | ⟨d1, d2⟩
              · have q1 : (s[k].toNat : Int) < 97 := by rw [hb]; omega
                have q2 : ¬ (s[k].toNat : Int) < 48 := by rw [hb]; omega
                have q3 : ¬ 57 < (s[k].toNat : Int) := by rw [hb]; omega
                clear d1 d2 hb
                go_wp2
                go_round
                case rel => exact ⟨k + 1, by omega, by go_num, okTo_succ ho.out HOK.out⟩
                case measure => simp [intOf]; omega
              · have q1 : ¬ (s[k].toNat : Int) < 97 := by rw [hb]; omega
                have q2 : ¬ 122 < (s[k].toNat : Int) := by rw [hb]; omega
                clear d1 d2 hb
                go_wp2
                go_round
                case rel => exact ⟨k + 1, by omega, by go_num, okTo_succ ho.out HOK.out⟩
                case measure => simp [intOf]; omega
            · have HOK := Lib.hid (show (digB (s.data.toList.getD k 0) || lowB (s.data.toList.getD k 0)) = false by
                rw [← I6.out, ← Bool.not_eq_true]; simpa [digB, lowB] using hd)
              have q : ((s[k].toNat : Int) < 97 ∧ (s[k].toNat : Int) < 48) ∨ ((s[k].toNat : Int) < 97 ∧ ¬ (s[k].toNat : Int) < 48 ∧ 57 < (s[k].toNat : Int)) ∨ (¬ (s[k].toNat : Int) < 97 ∧ 122 < (s[k].toNat : Int) ∧ ¬ (s[k].toNat : Int) < 48 ∧ 57 < (s[k].toNat : Int)) := by rw [hb]; omega
              clear hd hb
              rcases q with ⟨q1, q2⟩ | ⟨q1, q2, q3⟩ | ⟨q1, q2, q3, q4⟩
              all_goals
                go_wp2
                go_ret
                exact pureB_mk (HN.out ⟨k, hlt, HOK.out⟩)
          · obtain rfl : k = s.size := by omega
            go_wp2
            go_ret
            exact pureB_mk (HY.out ho.out)
      · have HE := Lib.hid (show nameB s.data.toList = false by rw [← Bool.not_eq_true, hn, ← i5]; simp only [lowB, decide_eq_true_iff]; rintro ⟨-, -, q, -⟩; exact hlo q)
        have q : (s[0].toNat : Int) < 97 ∨ (¬ (s[0].toNat : Int) < 97 ∧ 122 < (s[0].toNat : Int)) := by omega
        clear h0 h1 hl hn i5 hlo
        rcases q with q | ⟨q, q'⟩
        all_goals
          go_enter Tryd.func28, Tryd.ntmps28
          go_wp2
          go_ret
          rw [HE.out]
          exact pureB_mk rfl
end Go.Proofs.YthcogkcjmhjjmaaDoor
