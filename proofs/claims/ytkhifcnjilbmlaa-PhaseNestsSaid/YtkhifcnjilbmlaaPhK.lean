/- The law PhaseNests, walked. -/
import Derived.Test.YtkhifcnjilbmlaaPhG
namespace Go.Proofs.Ytkhifcnjilbmlaa
open Go.ChangeShapes Go.WideShapes Go.ChangeAt Go.RowKit
open Gen

/-- a reader in words: the word, the gate, the gate by which it came in, how deep it is -/
def NestI (y h inn : Int) (D : Nat) : Prop := D ≤ 63 ∧ (h = 1 ∨ h = 65) ∧ ((D = 0 ∧ (y = 0 ∨ y = 64)) ∨ (0 < D ∧ (inn = 1 ∨ inn = 65) ∧ y = inn - 1 + D))
theorem nest_r (d : Int) : ∃ r, (wrap64 (d.tmod 3 + 3)).tmod 3 = r ∧ (r = 0 ∨ r = 1 ∨ r = 2) := by
  have h1 := Int.tmod_lt_of_pos d (show (0 : Int) < 3 by omega)
  have h2 := Int.lt_tmod_of_pos d (show (0 : Int) < 3 by omega)
  rw [IntWalk.wrap64_in _ (by omega)]
  have h3 := Int.tmod_lt_of_pos (d.tmod 3 + 3) (show (0 : Int) < 3 by omega)
  have h4 := Int.tmod_nonneg 3 (show 0 ≤ d.tmod 3 + 3 by omega)
  exact ⟨_, rfl, by omega⟩
theorem nestR {y h inn : Int} {D : Nat} (H : NestI y h inn D) : phR y h = true := by
  obtain ⟨h1, h2, h3⟩ := H
  simp only [phR, phW, phG, Bool.and_eq_true, decide_eq_true_eq]
  omega
theorem nestW {y h inn : Int} {D : Nat} (H : NestI y h inn D) : phW y = true := phR_W (nestR H)
theorem nestM {y h inn : Int} {D : Nat} (H : NestI y h inn D) : y % 64 = D := by
  obtain ⟨h1, h2, h3⟩ := H; omega
theorem nest_deep {y h inn : Int} (H : NestI y h inn 63) : phEnter y h = (0, 13) := by
  have := nestM H
  simp only [phEnter, nestR H]
  rw [if_neg (by decide), if_neg (by omega), if_pos (by omega)]
theorem nest_first {y h inn : Int} (H : NestI y h inn 0) : phEnter y h = (h, 0) ∧ NestI h h h 1 := by
  have := nestM H
  refine ⟨?_, by omega, H.2.1, .inr ⟨by omega, H.2.1, by omega⟩⟩
  simp only [phEnter, nestR H]
  rw [if_neg (by decide), if_pos (by omega)]
theorem nest_next {y h inn : Int} {D : Nat} (H : NestI y h inn D) (h0 : 0 < D) (h3 : D < 63) : phEnter y h = (y + 1, 0) ∧ NestI (y + 1) h inn (D + 1) ∧ y + 1 = inn - 1 + ((D : Int) + 1) ∧ (inn = 1 ∨ inn = 65) := by
  have hm := nestM H
  have hR := nestR H
  obtain ⟨a1, a2, a3⟩ := H
  have a4 : (inn = 1 ∨ inn = 65) ∧ y = inn - 1 + D := by rcases a3 with a3 | a3; (exact absurd a3.1 (by omega)); exact a3.2
  refine ⟨?_, ⟨by omega, a2, .inr ⟨by omega, a4.1, by omega⟩⟩, by omega, a4.1⟩
  simp only [phEnter, hR]
  rw [if_neg (by decide), if_neg (by omega), if_neg (by omega)]
theorem nest_none {y h inn : Int} (H : NestI y h inn 0) : phLeave y = (0, 8) := by
  have := nestM H
  simp only [phLeave, nestW H]
  rw [if_neg (by decide), if_pos (by omega)]
theorem nest_out {y h inn : Int} (H : NestI y h inn 1) : phLeave y = (y - 1, 0) ∧ NestI (y - 1) h inn 0 ∧ (y - 1 = 0 ∨ y - 1 = 64) := by
  have hm := nestM H
  have hW := nestW H
  obtain ⟨a1, a2, a3⟩ := H
  refine ⟨?_, ⟨by omega, a2, .inl ⟨rfl, by omega⟩⟩, by omega⟩
  simp only [phLeave, hW]
  rw [if_neg (by decide), if_neg (by omega)]
theorem nest_less {y h inn : Int} {D : Nat} (H : NestI y h inn (D + 2)) : phLeave y = (y - 1, 0) ∧ NestI (y - 1) h inn (D + 1) ∧ y - 1 = inn - 1 + (((D : Int) + 2) - 1) ∧ (inn = 1 ∨ inn = 65) := by
  have hm := nestM H
  have hW := nestW H
  obtain ⟨a1, a2, a3⟩ := H
  have a4 : (inn = 1 ∨ inn = 65) ∧ y = inn - 1 + ((D + 2 : Nat) : Int) := by rcases a3 with a3 | a3; (exact absurd a3.1 (by omega)); exact a3.2
  refine ⟨?_, ⟨by omega, a2, .inr ⟨by omega, a4.1, by omega⟩⟩, by omega, a4.1⟩
  simp only [phLeave, hW]
  rw [if_neg (by decide), if_neg (by omega)]
theorem nest_flip {y h inn : Int} {D : Nat} (H : NestI y h inn D) : phFlip h = (66 - h, 0) ∧ NestI y (66 - h) inn D ∧ (66 - h == h) = false := by
  refine ⟨phFlip_ok H.2.1, ⟨H.1, ?_, H.2.2⟩, ?_⟩
  · rcases H.2.1 with rfl | rfl <;> simp
  · rcases H.2.1 with rfl | rfl <;> rfl
theorem nest_in {y h inn : Int} {D : Nat} (H : NestI y h inn D) (h0 : 0 < D) : y = inn - 1 + (D : Int) ∧ (inn = 1 ∨ inn = 65) := by
  obtain ⟨a1, a2, a3⟩ := H
  rcases a3 with a3 | a3
  · exact absurd a3.1 (by omega)
  · exact ⟨a3.2.2, a3.2.1⟩
theorem nest_out0 {y h inn : Int} (H : NestI y h inn 0) : y = 0 ∨ y = 64 := by
  obtain ⟨a1, a2, a3⟩ := H
  rcases a3 with a3 | a3
  · exact a3.2
  · exact absurd a3.1 (by omega)

set_option maxRecDepth 100000 in
set_option maxHeartbeats 16000000 in
theorem PhaseNests_walk (a : Option Addr) (n c : Nat) (l0 : List Int) (w : World) (hz : IsVs repInt (fun z => (Lit.int .i64 z).wf = true) w a n c l0) : Calls Try.prog 5 #[.slice a n c] w fun e w' => e = .returned (.bool true) ∧ Below w.heap.size w w' := by
  obtain ⟨hnc, hc, -, V0, -⟩ := hz
  have HV := Lib.hid V0
  have z0 : (bits .and .i64 0 63 != 0) = false := by decide +kernel
  have z64 : (bits .and .i64 64 63 != 0) = false := by decide +kernel
  clear V0
  obtain ⟨m, hm⟩ : ∃ m, min n 200 = m := ⟨_, rfl⟩
  have hm200 : m ≤ 200 := by omega
  have hmn : m ≤ n := by omega
  by_cases q : n ≤ 200
  · obtain rfl : m = n := by omega
    have q0 : ¬ (200 : Int) < (m : Int) := by omega
    have q1 : (m : Int) ≤ c := by omega
    clear hm q
    go_enter Try.func5, Try.ntmps5
    go_wp2
    go_loopw [3, 4, 5, 6, 21] (fun s3 s4 s5 s6 i wr => ∃ (k : Nat) (y h inn : Int) (D : Nat), k ≤ m ∧ s3 = .int .i64 y ∧ s4 = .int .i64 h ∧ s5 = .int .i64 D ∧ s6 = .int .i64 inn ∧ i = .int .i64 k ∧ Hid (NestI y h inn D) ∧ Hid (Below w.heap.size w wr)) (fun _ _ _ _ i _ => m - (intOf i).toNat)
    case atStart => exact ⟨0, 0, 1, 0, 0, by omega, rfl, rfl, rfl, rfl, rfl, Lib.hid ⟨by omega, .inl rfl, .inl ⟨rfl, .inl rfl⟩⟩, Lib.hid (Below.refl _ _)⟩
    case round =>
      obtain ⟨k, y, h, inn, D, hk, rfl, rfl, rfl, rfl, rfl, HN, HB⟩ := hrel
      by_cases hlt : k < m
      · obtain ⟨b, o, rfl, hcc, -⟩ := int_at14 (vs_B HB.out HV.out) (show k < m by omega)
        generalize l0.getD k 0 = d at hcc
        have hD := HN.out.1
        go_upto_region 10 with fail
        obtain ⟨r, hr, hr3⟩ := nest_r d
        rw [hr]
        clear hr
        rcases hr3 with rfl | rfl | rfl
        · by_cases d3 : D = 63
          · subst d3
            have HE := Lib.hid (nest_deep HN.out)
            go_wp2_with fail
            refine (enter14_any y h _).mono ?_
            rw [HE.out]
            rintro e w9 ⟨rfl, hb9⟩
            have HB9 := Lib.hid (HB.out.trans (hb9.mono HB.out.size))
            clear hb9
            go_wp2
            go_roundw
            case rel => exact ⟨k + 1, y, h, inn, 63, by omega, rfl, rfl, by go_num, rfl, by go_num, HN, HB9⟩
            case measure => simp [intOf]; omega
          · by_cases d0 : D = 0
            · subst d0
              obtain ⟨he, hn⟩ := nest_first HN.out
              have HE := Lib.hid he
              have HN' := Lib.hid hn
              have hh := HN.out.2.1
              have e1 : (h != h - 1 + 1) = false := by simp
              have e2 : (h != h) = false := by simp
              clear he hn d3
              go_wp2_with fail
              refine (enter14_any y h _).mono ?_
              rw [HE.out]
              rintro e w9 ⟨rfl, hb9⟩
              have HB9 := Lib.hid (HB.out.trans (hb9.mono HB.out.size))
              clear hb9
              go_wp2
              go_roundw
              case rel => exact ⟨k + 1, h, h, h, 1, by omega, rfl, rfl, by go_num, rfl, by go_num, HN', HB9⟩
              case measure => simp [intOf]; omega
            · obtain ⟨he, hn, hy, hi⟩ := nest_next HN.out (by omega) (by omega)
              obtain ⟨y', hy'⟩ : ∃ y', y + 1 = y' := ⟨_, rfl⟩
              rw [hy'] at he hn hy
              have HE := Lib.hid he
              have HN' := Lib.hid hn
              have e1 : (y' != inn - 1 + ((D : Int) + 1)) = false := by rw [hy]; simp
              have e3 : ((D : Int) == 63) = false := by simp; omega
              have e4 : ((D : Int) == 0) = false := by simp; omega
              clear he hn d3 d0 hy hy'
              go_wp2_with fail
              refine (enter14_any y h _).mono ?_
              rw [HE.out]
              rintro e w9 ⟨rfl, hb9⟩
              have HB9 := Lib.hid (HB.out.trans (hb9.mono HB.out.size))
              clear hb9
              go_wp2
              go_roundw
              case rel => exact ⟨k + 1, y', h, inn, D + 1, by omega, rfl, rfl, by go_num, rfl, by go_num, HN', HB9⟩
              case measure => simp [intOf]; omega
        · rcases D with _ | _ | D
          · have HE := Lib.hid (nest_none HN.out)
            go_wp2_with fail
            refine (leave14_any y _).mono ?_
            rw [HE.out]
            rintro e w9 ⟨rfl, hb9⟩
            have HB9 := Lib.hid (HB.out.trans (hb9.mono HB.out.size))
            clear hb9
            go_wp2
            go_roundw
            case rel => exact ⟨k + 1, y, h, inn, 0, by omega, rfl, rfl, by go_num, rfl, by go_num, HN, HB9⟩
            case measure => simp [intOf]; omega
          · obtain ⟨he, hn, hy⟩ := nest_out HN.out
            obtain ⟨y', hy'⟩ : ∃ y', y - 1 = y' := ⟨_, rfl⟩
            rw [hy'] at he hn hy
            have HE := Lib.hid he
            have HN' := Lib.hid hn
            have e1 : (bits .and .i64 y' 63 != 0) = false := by rcases hy with rfl | rfl; exact z0; exact z64
            clear he hn hy hy'
            go_wp2_with fail
            refine (leave14_any y _).mono ?_
            rw [HE.out]
            rintro e w9 ⟨rfl, hb9⟩
            have HB9 := Lib.hid (HB.out.trans (hb9.mono HB.out.size))
            clear hb9
            go_wp2
            go_roundw
            case rel => exact ⟨k + 1, y', h, inn, 0, by omega, rfl, rfl, by go_num, rfl, by go_num, HN', HB9⟩
            case measure => simp [intOf]; omega
          · obtain ⟨he, hn, hy, hi⟩ := nest_less HN.out
            obtain ⟨y', hy'⟩ : ∃ y', y - 1 = y' := ⟨_, rfl⟩
            rw [hy'] at he hn hy
            have HE := Lib.hid he
            have HN' := Lib.hid hn
            obtain ⟨E, hE⟩ : ∃ E : Nat, E = D + 2 := ⟨_, rfl⟩
            have hEi : (E : Int) = D + 2 := by omega
            rw [← hEi] at hy
            have e1 : (y' != inn - 1 + ((E : Int) - 1)) = false := by rw [hy]; simp
            have e3 : ((E : Int) == 0) = false := by simp; omega
            have hE2 : 2 ≤ E := by omega
            rw [show D + 1 + 1 = E by omega] at hD ⊢
            rw [show D + 1 = E - 1 by omega] at HN'
            clear he hn hy hy' hEi HN
            clear hE
            go_wp2_with fail
            refine (leave14_any y _).mono ?_
            rw [HE.out]
            rintro e w9 ⟨rfl, hb9⟩
            have HB9 := Lib.hid (HB.out.trans (hb9.mono HB.out.size))
            clear hb9
            go_wp2
            go_roundw
            case rel => exact ⟨k + 1, y', h, inn, E - 1, by omega, rfl, rfl, by go_num, rfl, by go_num, HN', HB9⟩
            case measure => simp [intOf]; omega
        · obtain ⟨he, hn, hf⟩ := nest_flip HN.out
          obtain ⟨h', hh'⟩ : ∃ h', 66 - h = h' := ⟨_, rfl⟩
          rw [hh'] at he hn hf
          have HE := Lib.hid he
          have HN' := Lib.hid hn
          clear he hn hh'
          by_cases d0 : D = 0
          · subst d0
            have e1 : (bits .and .i64 y 63 != 0) = false := by rcases nest_out0 HN.out with rfl | rfl; exact z0; exact z64
            go_wp2_with fail
            refine (flip14_any h _).mono ?_
            rw [HE.out]
            rintro e w9 ⟨rfl, hb9⟩
            have HB9 := Lib.hid (HB.out.trans (hb9.mono HB.out.size))
            clear hb9
            go_wp2
            go_roundw
            case rel => exact ⟨k + 1, y, h', inn, 0, by omega, rfl, rfl, by go_num, rfl, by go_num, HN', HB9⟩
            case measure => simp [intOf]; omega
          · obtain ⟨hy, hi⟩ := nest_in HN.out (by omega)
            have e1 : (y != inn - 1 + (D : Int)) = false := by rw [hy]; simp
            have e4 : ((D : Int) == 0) = false := by simp; omega
            clear hy
            go_wp2_with fail
            refine (flip14_any h _).mono ?_
            rw [HE.out]
            rintro e w9 ⟨rfl, hb9⟩
            have HB9 := Lib.hid (HB.out.trans (hb9.mono HB.out.size))
            clear hb9
            go_wp2
            go_roundw
            case rel => exact ⟨k + 1, y, h', inn, D, by omega, rfl, rfl, by go_num, rfl, by go_num, HN', HB9⟩
            case measure => simp [intOf]; omega
      · obtain rfl : k = m := by omega
        go_wp2_with fail
        refine (alive14_any _).mono ?_
        rintro e w9 ⟨rfl, hb9⟩
        have HB9 := Lib.hid (HB.out.trans (hb9.mono HB.out.size))
        clear hb9
        go_wp2
        go_ret
        exact ⟨rfl, HB9.out⟩
  · obtain rfl : m = 200 := by omega
    have q0 : (200 : Int) < (n : Int) := by omega
    have q1 : (200 : Int) ≤ c := by omega
    clear hm q
    go_enter Try.func5, Try.ntmps5
    go_wp2
    go_loopw [3, 4, 5, 6, 21] (fun s3 s4 s5 s6 i wr => ∃ (k : Nat) (y h inn : Int) (D : Nat), k ≤ 200 ∧ s3 = .int .i64 y ∧ s4 = .int .i64 h ∧ s5 = .int .i64 D ∧ s6 = .int .i64 inn ∧ i = .int .i64 k ∧ Hid (NestI y h inn D) ∧ Hid (Below w.heap.size w wr)) (fun _ _ _ _ i _ => 200 - (intOf i).toNat)
    case atStart => exact ⟨0, 0, 1, 0, 0, by omega, rfl, rfl, rfl, rfl, rfl, Lib.hid ⟨by omega, .inl rfl, .inl ⟨rfl, .inl rfl⟩⟩, Lib.hid (Below.refl _ _)⟩
    case round =>
      obtain ⟨k, y, h, inn, D, hk, rfl, rfl, rfl, rfl, rfl, HN, HB⟩ := hrel
      by_cases hlt : k < 200
      · obtain ⟨b, o, rfl, hcc, -⟩ := int_at14 (vs_B HB.out HV.out) (show k < n by omega)
        generalize l0.getD k 0 = d at hcc
        have hD := HN.out.1
        go_upto_region 10 with fail
        obtain ⟨r, hr, hr3⟩ := nest_r d
        rw [hr]
        clear hr
        rcases hr3 with rfl | rfl | rfl
        · by_cases d3 : D = 63
          · subst d3
            have HE := Lib.hid (nest_deep HN.out)
            go_wp2_with fail
            refine (enter14_any y h _).mono ?_
            rw [HE.out]
            rintro e w9 ⟨rfl, hb9⟩
            have HB9 := Lib.hid (HB.out.trans (hb9.mono HB.out.size))
            clear hb9
            go_wp2
            go_roundw
            case rel => exact ⟨k + 1, y, h, inn, 63, by omega, rfl, rfl, by go_num, rfl, by go_num, HN, HB9⟩
            case measure => simp [intOf]; omega
          · by_cases d0 : D = 0
            · subst d0
              obtain ⟨he, hn⟩ := nest_first HN.out
              have HE := Lib.hid he
              have HN' := Lib.hid hn
              have hh := HN.out.2.1
              have e1 : (h != h - 1 + 1) = false := by simp
              have e2 : (h != h) = false := by simp
              clear he hn d3
              go_wp2_with fail
              refine (enter14_any y h _).mono ?_
              rw [HE.out]
              rintro e w9 ⟨rfl, hb9⟩
              have HB9 := Lib.hid (HB.out.trans (hb9.mono HB.out.size))
              clear hb9
              go_wp2
              go_roundw
              case rel => exact ⟨k + 1, h, h, h, 1, by omega, rfl, rfl, by go_num, rfl, by go_num, HN', HB9⟩
              case measure => simp [intOf]; omega
            · obtain ⟨he, hn, hy, hi⟩ := nest_next HN.out (by omega) (by omega)
              obtain ⟨y', hy'⟩ : ∃ y', y + 1 = y' := ⟨_, rfl⟩
              rw [hy'] at he hn hy
              have HE := Lib.hid he
              have HN' := Lib.hid hn
              have e1 : (y' != inn - 1 + ((D : Int) + 1)) = false := by rw [hy]; simp
              have e3 : ((D : Int) == 63) = false := by simp; omega
              have e4 : ((D : Int) == 0) = false := by simp; omega
              clear he hn d3 d0 hy hy'
              go_wp2_with fail
              refine (enter14_any y h _).mono ?_
              rw [HE.out]
              rintro e w9 ⟨rfl, hb9⟩
              have HB9 := Lib.hid (HB.out.trans (hb9.mono HB.out.size))
              clear hb9
              go_wp2
              go_roundw
              case rel => exact ⟨k + 1, y', h, inn, D + 1, by omega, rfl, rfl, by go_num, rfl, by go_num, HN', HB9⟩
              case measure => simp [intOf]; omega
        · rcases D with _ | _ | D
          · have HE := Lib.hid (nest_none HN.out)
            go_wp2_with fail
            refine (leave14_any y _).mono ?_
            rw [HE.out]
            rintro e w9 ⟨rfl, hb9⟩
            have HB9 := Lib.hid (HB.out.trans (hb9.mono HB.out.size))
            clear hb9
            go_wp2
            go_roundw
            case rel => exact ⟨k + 1, y, h, inn, 0, by omega, rfl, rfl, by go_num, rfl, by go_num, HN, HB9⟩
            case measure => simp [intOf]; omega
          · obtain ⟨he, hn, hy⟩ := nest_out HN.out
            obtain ⟨y', hy'⟩ : ∃ y', y - 1 = y' := ⟨_, rfl⟩
            rw [hy'] at he hn hy
            have HE := Lib.hid he
            have HN' := Lib.hid hn
            have e1 : (bits .and .i64 y' 63 != 0) = false := by rcases hy with rfl | rfl; exact z0; exact z64
            clear he hn hy hy'
            go_wp2_with fail
            refine (leave14_any y _).mono ?_
            rw [HE.out]
            rintro e w9 ⟨rfl, hb9⟩
            have HB9 := Lib.hid (HB.out.trans (hb9.mono HB.out.size))
            clear hb9
            go_wp2
            go_roundw
            case rel => exact ⟨k + 1, y', h, inn, 0, by omega, rfl, rfl, by go_num, rfl, by go_num, HN', HB9⟩
            case measure => simp [intOf]; omega
          · obtain ⟨he, hn, hy, hi⟩ := nest_less HN.out
            obtain ⟨y', hy'⟩ : ∃ y', y - 1 = y' := ⟨_, rfl⟩
            rw [hy'] at he hn hy
            have HE := Lib.hid he
            have HN' := Lib.hid hn
            obtain ⟨E, hE⟩ : ∃ E : Nat, E = D + 2 := ⟨_, rfl⟩
            have hEi : (E : Int) = D + 2 := by omega
            rw [← hEi] at hy
            have e1 : (y' != inn - 1 + ((E : Int) - 1)) = false := by rw [hy]; simp
            have e3 : ((E : Int) == 0) = false := by simp; omega
            have hE2 : 2 ≤ E := by omega
            rw [show D + 1 + 1 = E by omega] at hD ⊢
            rw [show D + 1 = E - 1 by omega] at HN'
            clear he hn hy hy' hEi HN
            clear hE
            go_wp2_with fail
            refine (leave14_any y _).mono ?_
            rw [HE.out]
            rintro e w9 ⟨rfl, hb9⟩
            have HB9 := Lib.hid (HB.out.trans (hb9.mono HB.out.size))
            clear hb9
            go_wp2
            go_roundw
            case rel => exact ⟨k + 1, y', h, inn, E - 1, by omega, rfl, rfl, by go_num, rfl, by go_num, HN', HB9⟩
            case measure => simp [intOf]; omega
        · obtain ⟨he, hn, hf⟩ := nest_flip HN.out
          obtain ⟨h', hh'⟩ : ∃ h', 66 - h = h' := ⟨_, rfl⟩
          rw [hh'] at he hn hf
          have HE := Lib.hid he
          have HN' := Lib.hid hn
          clear he hn hh'
          by_cases d0 : D = 0
          · subst d0
            have e1 : (bits .and .i64 y 63 != 0) = false := by rcases nest_out0 HN.out with rfl | rfl; exact z0; exact z64
            go_wp2_with fail
            refine (flip14_any h _).mono ?_
            rw [HE.out]
            rintro e w9 ⟨rfl, hb9⟩
            have HB9 := Lib.hid (HB.out.trans (hb9.mono HB.out.size))
            clear hb9
            go_wp2
            go_roundw
            case rel => exact ⟨k + 1, y, h', inn, 0, by omega, rfl, rfl, by go_num, rfl, by go_num, HN', HB9⟩
            case measure => simp [intOf]; omega
          · obtain ⟨hy, hi⟩ := nest_in HN.out (by omega)
            have e1 : (y != inn - 1 + (D : Int)) = false := by rw [hy]; simp
            have e4 : ((D : Int) == 0) = false := by simp; omega
            clear hy
            go_wp2_with fail
            refine (flip14_any h _).mono ?_
            rw [HE.out]
            rintro e w9 ⟨rfl, hb9⟩
            have HB9 := Lib.hid (HB.out.trans (hb9.mono HB.out.size))
            clear hb9
            go_wp2
            go_roundw
            case rel => exact ⟨k + 1, y, h', inn, D, by omega, rfl, rfl, by go_num, rfl, by go_num, HN', HB9⟩
            case measure => simp [intOf]; omega
      · obtain rfl : k = 200 := by omega
        go_wp2_with fail
        refine (alive14_any _).mono ?_
        rintro e w9 ⟨rfl, hb9⟩
        have HB9 := Lib.hid (HB.out.trans (hb9.mono HB.out.size))
        clear hb9
        go_wp2
        go_ret
        exact ⟨rfl, HB9.out⟩
end Go.Proofs.Ytkhifcnjilbmlaa
