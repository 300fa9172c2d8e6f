/- The reference 14: Deeds and Run. -/
import Derived.Test.YtkhifcnjilbmlaaPhE
namespace Go.Proofs.Ytkhifcnjilbmlaa
open Go.ChangeShapes Go.WideShapes Go.ChangeAt Go.RowKit
open Gen

set_option maxHeartbeats 2000000 in
theorem refDeeds14_any (a : Option Addr) (n c : Nat) (l : List Int) (w : World) (hn : n ≤ 200) (V : Vs repInt Any w a n l) : Calls Try.prog 19 #[.slice a n c] w (PhB (phDs l) w) := by
  have HL := Lib.hid V.1
  have HV := Lib.hid V
  clear V
  go_enter Try.func19, Try.ntmps19
  go_wp2
  go_loopw [7] (fun i wr => ∃ k : Nat, k ≤ n ∧ i = .int .i64 k ∧ Hid (phDs (l.take k) = true) ∧ wr = w) (fun i _ => n - (intOf i).toNat)
  case atStart => exact ⟨0, by omega, rfl, Lib.hid rfl, rfl⟩
  case round =>
    obtain ⟨k, hk, rfl, HD, rfl⟩ := hrel
    by_cases hlt : k < n
    · obtain ⟨b, o, rfl, hc, hlk⟩ := int_at14 HV.out hlt
      generalize hd : l.getD k 0 = d at hc
      have HDD := Lib.hid hd
      have HLK := Lib.hid hlk
      clear hd hlk
      by_cases q1 : d < 0
      · have H := Lib.hid (phDs_not HLK.out (by rw [HDD.out]; simp only [phD, decide_eq_false_iff_not]; omega))
        go_wp2
        go_ret
        exact ⟨ph_bool H.out.symm, by go_grown⟩
      · by_cases q2 : 2 < d
        · have H := Lib.hid (phDs_not HLK.out (by rw [HDD.out]; simp only [phD, decide_eq_false_iff_not]; omega))
          go_wp2
          go_ret
          exact ⟨ph_bool H.out.symm, by go_grown⟩
        · have H := Lib.hid (show phDs (l.take (k + 1)) = true by
            rw [phTake HLK.out, HDD.out]
            exact phDs_snoc HD.out (by simp only [phD, decide_eq_true_eq]; omega))
          go_wp2
          go_roundw
          case rel => exact ⟨k + 1, by omega, by go_num, H, trivial⟩
          case measure => simp [intOf]; omega
    · obtain rfl : k = n := by omega
      have H := Lib.hid (show phDs l = true by have := HD.out; rw [List.take_of_length_le (by rw [HL.out]; exact Nat.le_refl _)] at this; exact this)
      go_wp2
      go_ret
      exact ⟨ph_bool H.out.symm, by go_grown⟩

def PhR3 (s : Int × Int × Nat) (w : World) (e : Ending) (w' : World) : Prop := e = .returned (.tuple #[.int .i64 s.1, .int .i64 s.2.1, .int .i64 (s.2.2 : Int)]) ∧ Below w.heap.size w w'
theorem phR3_mk {s : Int × Int × Nat} {y h : Int} {m : Nat} {w w' : World} (hs : s = (y, h, m)) (hb : Below w.heap.size w w') : PhR3 s w (.returned (.tuple #[.int .i64 y, .int .i64 h, .int .i64 (m : Int)])) w' := by subst hs; exact ⟨rfl, hb⟩
theorem phDs_get {l : List Int} (h : phDs l = true) {k : Nat} (hk : k < l.length) : phD (l.getD k 0) = true := by
  have := List.all_eq_true.1 h (l.getD k 0) (by simp only [List.getD, List.getElem?_eq_getElem hk, Option.getD_some]; exact List.getElem_mem hk)
  exact this
theorem phGo_end {l : List Int} {x g y h : Int} {m n : Nat} (H : PhRel l x g n y h m) (hl : l.length = n) : phGo l (x, g, 0) = (y, h, m) := by
  have := H.1; rw [List.take_of_length_le (by omega)] at this; exact this
theorem phRel_R {l : List Int} {x g : Int} {k : Nat} {y h : Int} {m : Nat} (H : PhRel l x g k y h m) : phR y h = true := H.2.2
theorem phR_W {x g : Int} (h : phR x g = true) : phW x = true := by simp only [phR, Bool.and_eq_true] at h; exact h.1
theorem phR_G {x g : Int} (h : phR x g = true) : g = 1 ∨ g = 65 := (phR_t h).2
theorem phFlip_ok {g : Int} (h : g = 1 ∨ g = 65) : phFlip g = (66 - g, 0) := by rcases h with rfl | rfl <;> decide

set_option maxRecDepth 20000 in
set_option maxHeartbeats 8000000 in
theorem refRun14_any (x g : Int) (a : Option Addr) (n c : Nat) (l : List Int) (w : World) (hr : phR x g = true) (hds : phDs l = true) (hn : n ≤ 200) (V : Vs repInt Any w a n l) : Calls Try.prog 20 #[.int .i64 x, .int .i64 g, .slice a n c] w (PhR3 (phGo l (x, g, 0)) w) := by
  have HL := Lib.hid V.1
  have HV := Lib.hid V
  have HR := Lib.hid hr
  have HDS := Lib.hid hds
  clear V hr hds
  go_enter Try.func20, Try.ntmps20
  go_wp2
  go_loopw [0, 1, 9, 16] (fun s0 s1 s9 i wr => ∃ (k : Nat) (y h : Int) (m : Nat), k ≤ n ∧ m ≤ k ∧ s0 = .int .i64 y ∧ s1 = .int .i64 h ∧ s9 = .int .i64 m ∧ i = .int .i64 k ∧ Hid (PhRel l x g k y h m) ∧ Hid (Below w.heap.size w wr)) (fun _ _ _ i _ => n - (intOf i).toNat)
  case atStart => exact ⟨0, x, g, 0, by omega, by omega, rfl, rfl, rfl, rfl, Lib.hid (phRel_0 HR.out), Lib.hid (Below.refl _ _)⟩
  case round =>
    obtain ⟨k, y, h, m, hk, hm, rfl, rfl, rfl, rfl, HRel, HB⟩ := hrel
    by_cases hlt : k < n
    · obtain ⟨b, o, rfl, hc, hlk⟩ := int_at14 (vs_B HB.out HV.out) hlt
      have hdd := phDs_get HDS.out hlk
      generalize hd : l.getD k 0 = d at hc hdd
      have HD := Lib.hid hd
      have HLK := Lib.hid hlk
      have HO := Lib.hid hdd
      have q3 : d = 0 ∨ d = 1 ∨ d = 2 := by simp only [phD, decide_eq_true_eq] at hdd; omega
      obtain ⟨⟨y', h', e⟩, hp⟩ : ∃ p, phTab d y h = p := ⟨_, rfl⟩
      have HP := Lib.hid hp
      clear hd hlk hp hdd
      rcases q3 with rfl | rfl | rfl
      · have HDD := Lib.hid (fun w => refEnter14_any y h (phRel_R HRel.out) w)
        have HE := Lib.hid (show ((phEnter y h).1, h, (phEnter y h).2) = (y', h', e) from HP.out)
        obtain ⟨rfl, e1, e2⟩ : h = h' ∧ (phEnter y h).1 = y' ∧ (phEnter y h).2 = e := by
          have := HE.out
          simp only [Prod.mk.injEq] at this
          exact ⟨this.2.1, this.1, this.2.2⟩
        rw [show phEnter y h = (y', e) from Prod.ext e1 e2] at HDD
        clear e1 e2 HE
        by_cases he : e = 0
        · subst he
          go_wp2_with fail
          refine (HDD.out _).mono ?_
          rintro e w9 ⟨rfl, hb9⟩
          have HB9 := Lib.hid (HB.out.trans (hb9.mono HB.out.size))
          clear hb9
          go_wp2
          go_roundw
          case rel => exact ⟨k + 1, y', h, m, by omega, by omega, rfl, rfl, rfl, by go_num, Lib.hid (phRel_ok HRel.out HLK.out HD.out HO.out HP.out), HB9⟩
          case measure => simp [intOf]; omega
        · have e0 : (e != 0) = true := by simp [he]
          go_wp2_with fail
          refine (HDD.out _).mono ?_
          rintro e w9 ⟨rfl, hb9⟩
          have HB9 := Lib.hid (HB.out.trans (hb9.mono HB.out.size))
          clear hb9
          go_wp2
          go_roundw
          case rel => exact ⟨k + 1, y, h, m + 1, by omega, by omega, rfl, rfl, by go_num, by go_num, Lib.hid (phRel_no HRel.out HLK.out HD.out HO.out HP.out he), HB9⟩
          case measure => simp [intOf]; omega
      · have HDD := Lib.hid (fun w => refLeave14_any y (phR_W (phRel_R HRel.out)) w)
        have HE := Lib.hid (show ((phLeave y).1, h, (phLeave y).2) = (y', h', e) from HP.out)
        obtain ⟨rfl, e1, e2⟩ : h = h' ∧ (phLeave y).1 = y' ∧ (phLeave y).2 = e := by
          have := HE.out
          simp only [Prod.mk.injEq] at this
          exact ⟨this.2.1, this.1, this.2.2⟩
        rw [show phLeave y = (y', e) from Prod.ext e1 e2] at HDD
        clear e1 e2 HE
        by_cases he : e = 0
        · subst he
          go_wp2_with fail
          refine (HDD.out _).mono ?_
          rintro e w9 ⟨rfl, hb9⟩
          have HB9 := Lib.hid (HB.out.trans (hb9.mono HB.out.size))
          clear hb9
          go_wp2
          go_roundw
          case rel => exact ⟨k + 1, y', h, m, by omega, by omega, rfl, rfl, rfl, by go_num, Lib.hid (phRel_ok HRel.out HLK.out HD.out HO.out HP.out), HB9⟩
          case measure => simp [intOf]; omega
        · have e0 : (e != 0) = true := by simp [he]
          go_wp2_with fail
          refine (HDD.out _).mono ?_
          rintro e w9 ⟨rfl, hb9⟩
          have HB9 := Lib.hid (HB.out.trans (hb9.mono HB.out.size))
          clear hb9
          go_wp2
          go_roundw
          case rel => exact ⟨k + 1, y, h, m + 1, by omega, by omega, rfl, rfl, by go_num, by go_num, Lib.hid (phRel_no HRel.out HLK.out HD.out HO.out HP.out he), HB9⟩
          case measure => simp [intOf]; omega
      · have HG := Lib.hid (phR_G (phRel_R HRel.out))
        have HDD := Lib.hid (fun w => refFlip14_any h HG.out w)
        obtain ⟨rfl, e1, e2⟩ : y = y' ∧ 66 - h = h' ∧ e = 0 := by
          have : (y, (phFlip h).1, (phFlip h).2) = (y', h', e) := HP.out
          rw [phFlip_ok HG.out] at this
          simp only [Prod.mk.injEq] at this
          exact ⟨this.1, this.2.1, this.2.2.symm⟩
        subst e2
        rw [e1] at HDD
        clear e1
        go_wp2_with fail
        refine (HDD.out _).mono ?_
        rintro e w9 ⟨rfl, hb9⟩
        have HB9 := Lib.hid (HB.out.trans (hb9.mono HB.out.size))
        clear hb9
        go_wp2
        go_roundw
        case rel => exact ⟨k + 1, y, h', m, by omega, by omega, rfl, rfl, rfl, by go_num, Lib.hid (phRel_ok HRel.out HLK.out HD.out HO.out HP.out), HB9⟩
        case measure => simp [intOf]; omega
    · obtain rfl : k = n := by omega
      have H := Lib.hid (phGo_end HRel.out HL.out)
      go_wp2
      go_returns
      exact phR3_mk H.out HB.out
end Go.Proofs.Ytkhifcnjilbmlaa
