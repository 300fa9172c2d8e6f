/- Package phase's Run, and the reference's Deeds and Run. -/
import Derived.Test.YtkhifcnjilbmlaaPhD
import Derived.Deep.DeepCutAuto
namespace Go.Proofs.Ytkhifcnjilbmlaa
open Go.ChangeShapes Go.WideShapes Go.ChangeAt Go.RowKit
open Gen

theorem int_at14 {w : World} {p : Option Addr} {n : Nat} {zs : List Int} (S : Vs repInt Any w p n zs) {k : Nat} (hk : k < n) : ∃ b o, p = some ⟨b, o, none⟩ ∧ w.cell? ⟨b, o + k, none⟩ = some (.int .i64 (zs.getD k 0)) ∧ k < zs.length := by
  obtain ⟨b, o, y, e, h1, -, h2⟩ := vs_at S hk
  have h3 := at_int h2
  have hl : k < zs.length := by have := S.1; omega
  refine ⟨b, o, e, ?_, hl⟩
  have : zs.getD k 0 = y := by simp [List.getD, h1]
  rw [this]
  simpa [repInt, rep1] using h3

def phRun (x g : Int) (l : List Int) : Int × Int × Int × Int := if (phR x g && phDs l) = false then (0, 0, 0, 1) else ((phGo l (x, g, 0)).1, (phGo l (x, g, 0)).2.1, ((phGo l (x, g, 0)).2.2 : Int), 0)
def PhQ (p : Int × Int × Int × Int) (w : World) (e : Ending) (w' : World) : Prop := e = .returned (.tuple #[.int .i64 p.1, .int .i64 p.2.1, .int .i64 p.2.2.1, .int .i64 p.2.2.2]) ∧ Below w.heap.size w w'
theorem phQ_mk {p q : Int × Int × Int × Int} {w w' : World} (h : p = q) (hb : Below w.heap.size w w') : PhQ p w (.returned (.tuple #[.int .i64 q.1, .int .i64 q.2.1, .int .i64 q.2.2.1, .int .i64 q.2.2.2])) w' := by subst h; exact ⟨rfl, hb⟩
theorem phDs_not {l : List Int} {k : Nat} (hk : k < l.length) (h : phD (l.getD k 0) = false) : phDs l = false := by
  rw [phDs, List.all_eq_false]
  refine ⟨l.getD k 0, ?_, by rw [h]; decide⟩
  simp only [List.getD, List.getElem?_eq_getElem hk, Option.getD_some]
  exact List.getElem_mem hk
theorem phDs_snoc {l : List Int} {d : Int} (h : phDs l = true) (hd : phD d = true) : phDs (l ++ [d]) = true := by
  simp only [phDs, List.all_append, Bool.and_eq_true] at h ⊢
  exact ⟨h, by simp [hd]⟩
def PhTbl (w : World) (g : Nat) : Prop := VarN w g [.func (.func 27) #[] #[], .func (.func 28) #[] #[], .func (.func 29) #[] #[]]
/-- what holds ahead of a round -/
def PhRel (l : List Int) (x g : Int) (k : Nat) (y h : Int) (m : Nat) : Prop := phGo (l.take k) (x, g, 0) = (y, h, m) ∧ phDs (l.take k) = true ∧ phR y h = true
theorem phRel_0 {l : List Int} {x g : Int} (h : phR x g = true) : PhRel l x g 0 x g 0 := ⟨rfl, rfl, h⟩
theorem phRel_ok {l : List Int} {x g : Int} {k : Nat} {y h : Int} {m : Nat} {d y' h' : Int} (H : PhRel l x g k y h m) (hk : k < l.length) (hd : l.getD k 0 = d) (ho : phD d = true) (ht : phTab d y h = (y', h', 0)) : PhRel l x g (k + 1) y' h' m := by
  obtain ⟨h1, h2, h3⟩ := H
  have q : phGo (l.take (k + 1)) (x, g, 0) = (y', h', m) := by
    rw [phTake hk, phGo_snoc, h1, hd]; simp [phDo, ht]
  refine ⟨q, ?_, ?_⟩
  · rw [phTake hk, hd]; exact phDs_snoc h2 ho
  · have := phTab_right (d := d) h3 (by rw [ht])
    rw [ht] at this; exact this
theorem phRel_no {l : List Int} {x g : Int} {k : Nat} {y h : Int} {m : Nat} {d y' h' e : Int} (H : PhRel l x g k y h m) (hk : k < l.length) (hd : l.getD k 0 = d) (ho : phD d = true) (ht : phTab d y h = (y', h', e)) (he : e ≠ 0) : PhRel l x g (k + 1) y h (m + 1) := by
  obtain ⟨h1, h2, h3⟩ := H
  have q : phGo (l.take (k + 1)) (x, g, 0) = (y, h, m + 1) := by
    rw [phTake hk, phGo_snoc, h1, hd]; simp [phDo, ht, he]
  refine ⟨q, ?_, h3⟩
  rw [phTake hk, hd]; exact phDs_snoc h2 ho
theorem phRun_bad {l : List Int} {x g : Int} (h : phR x g = false ∨ phDs l = false) : phRun x g l = (0, 0, 0, 1) := by
  have : (phR x g && phDs l) = false := by rcases h with h | h <;> simp [h]
  simp [phRun, this]
theorem phRun_end {l : List Int} {x g y h : Int} {m n : Nat} (hr : phR x g = true) (H : PhRel l x g n y h m) (hl : l.length = n) : phRun x g l = (y, h, (m : Int), 0) := by
  obtain ⟨h1, h2, -⟩ := H
  rw [List.take_of_length_le (by omega)] at h1 h2
  have : (phR x g && phDs l) = true := by simp [hr, h2]
  simp [phRun, this, h1]

set_option maxRecDepth 20000 in
set_option maxHeartbeats 8000000 in
theorem run14_any (x g : Int) (a : Option Addr) (n c : Nat) (l : List Int) (w : World) (hn : n ≤ 200) (V : Vs repInt Any w a n l) : Calls Try.prog 18 #[.int .i64 x, .int .i64 g, .slice a n c] w (PhQ (phRun x g l) w) := by
  have HL := Lib.hid V.1
  cases hr : phR x g with
  | false =>
    have H := Lib.hid (phRun_bad (l := l) (.inl hr))
    go_enter Try.func18, Try.ntmps18
    go_wp2_with fail
    refine (right14_any x g _).mono ?_
    rw [hr]
    rintro e w1 ⟨rfl, hb1⟩
    go_wp2
    go_returns
    exact phQ_mk H.out hb1
  | true =>
    have HR := Lib.hid hr
    go_enter Try.func18, Try.ntmps18
    go_wp2_with fail
    refine (right14_any x g _).mono ?_
    rw [hr]
    rintro e w1 ⟨rfl, hb1⟩
    go_wp2_with fail
    refine (table14_any _).mono ?_
    rintro e w2 ⟨rfl, hb2⟩
    have hb2' := hb1.trans (hb2.mono hb1.size)
    obtain ⟨w3, hw3⟩ : ∃ w3, w2.alloc (.cells #[.func (.func 27) #[] #[], .func (.func 28) #[] #[], .func (.func 29) #[] #[]] 42) = w3 := ⟨_, rfl⟩
    have HT3 := Lib.hid (show PhTbl w3 w2.heap.size by rw [← hw3]; exact varN_new [.func (.func 27) #[] #[], .func (.func 28) #[] #[], .func (.func 29) #[] #[]] _ rfl)
    have HB3 := Lib.hid (show Below w.heap.size w w3 by rw [← hw3]; exact hb2'.alloc hb2'.size _)
    have HV := Lib.hid V
    have HW3 := Lib.hid hw3
    have hs2 := hb2'.size
    clear hb1 hb2 hb2' hr V hw3
    go_upto_region 4 with fail
    rw [HW3.out]
    go_wp2
    go_loopw [0, 1, 11, 24] (fun s0 s1 s11 i wr => ∃ (k : Nat) (y h : Int) (m : Nat), k ≤ n ∧ m ≤ k ∧ s0 = .int .i64 y ∧ s1 = .int .i64 h ∧ s11 = .int .i64 m ∧ i = .int .i64 k ∧ Hid (PhRel l x g k y h m) ∧ Hid (PhTbl wr w2.heap.size) ∧ Hid (Below w.heap.size w wr)) (fun _ _ _ i _ => n - (intOf i).toNat)
    case atStart => exact ⟨0, x, g, 0, by omega, by omega, rfl, rfl, rfl, rfl, Lib.hid (phRel_0 HR.out), HT3, HB3⟩
    case round =>
      obtain ⟨k, y, h, m, hk, hm, rfl, rfl, rfl, rfl, HRel, HT, HB⟩ := hrel
      by_cases hlt : k < n
      · obtain ⟨b, o, rfl, hc, hlk⟩ := int_at14 (vs_B HB.out HV.out) hlt
        generalize hd : l.getD k 0 = d at hc
        have HD := Lib.hid hd
        have HLK := Lib.hid hlk
        clear hd hlk
        by_cases q1 : d < 0
        · have H := Lib.hid (phRun_bad (x := x) (g := g) (.inr (phDs_not HLK.out (by rw [HD.out]; simp only [phD, decide_eq_false_iff_not]; omega))))
          go_wp2
          go_returns
          exact phQ_mk H.out HB.out
        · by_cases q2 : 3 ≤ d
          · have H := Lib.hid (phRun_bad (x := x) (g := g) (.inr (phDs_not HLK.out (by rw [HD.out]; simp only [phD, decide_eq_false_iff_not]; omega))))
            go_wp2
            go_returns
            exact phQ_mk H.out HB.out
          · have HO := Lib.hid (show phD d = true by simp only [phD, decide_eq_true_eq]; omega)
            have q3 : d = 0 ∨ d = 1 ∨ d = 2 := by omega
            obtain ⟨⟨y', h', e⟩, hp⟩ : ∃ p, phTab d y h = p := ⟨_, rfl⟩
            have HP := Lib.hid hp
            obtain ⟨u0, -⟩ := HT.out 0 _ rfl
            obtain ⟨u1, -⟩ := HT.out 1 _ rfl
            obtain ⟨u2, -⟩ := HT.out 2 _ rfl
            clear hp
            rcases q3 with rfl | rfl | rfl
            · have HDD := Lib.hid (fun w => deed0_any y h w)
              rw [show (((phEnter y h).1, h, (phEnter y h).2)) = (y', h', e) from HP.out] at HDD
              by_cases he : e = 0
              · subst he
                go_wp2_with fail
                refine (HDD.out _).mono ?_
                rintro e w9 ⟨rfl, hb9⟩
                have HT9 := Lib.hid (varN_B hb9 HT.out)
                have HB9 := Lib.hid (HB.out.trans (hb9.mono HB.out.size))
                clear hb9
                go_wp2
                go_roundw
                case rel => exact ⟨k + 1, y', h', m, by omega, by omega, rfl, rfl, rfl, by go_num, Lib.hid (phRel_ok HRel.out HLK.out HD.out HO.out HP.out), HT9, HB9⟩
                case measure => simp [intOf]; omega
              · have e0 : (e != 0) = true := by simp [he]
                go_wp2_with fail
                refine (HDD.out _).mono ?_
                rintro e w9 ⟨rfl, hb9⟩
                have HT9 := Lib.hid (varN_B hb9 HT.out)
                have HB9 := Lib.hid (HB.out.trans (hb9.mono HB.out.size))
                clear hb9
                go_wp2
                go_roundw
                case rel => exact ⟨k + 1, y, h, m + 1, by omega, by omega, rfl, rfl, by go_num, by go_num, Lib.hid (phRel_no HRel.out HLK.out HD.out HO.out HP.out he), HT9, HB9⟩
                case measure => simp [intOf]; omega
            · have HDD := Lib.hid (fun w => deed1_any y h w)
              rw [show (((phLeave y).1, h, (phLeave y).2)) = (y', h', e) from HP.out] at HDD
              by_cases he : e = 0
              · subst he
                go_wp2_with fail
                refine (HDD.out _).mono ?_
                rintro e w9 ⟨rfl, hb9⟩
                have HT9 := Lib.hid (varN_B hb9 HT.out)
                have HB9 := Lib.hid (HB.out.trans (hb9.mono HB.out.size))
                clear hb9
                go_wp2
                go_roundw
                case rel => exact ⟨k + 1, y', h', m, by omega, by omega, rfl, rfl, rfl, by go_num, Lib.hid (phRel_ok HRel.out HLK.out HD.out HO.out HP.out), HT9, HB9⟩
                case measure => simp [intOf]; omega
              · have e0 : (e != 0) = true := by simp [he]
                go_wp2_with fail
                refine (HDD.out _).mono ?_
                rintro e w9 ⟨rfl, hb9⟩
                have HT9 := Lib.hid (varN_B hb9 HT.out)
                have HB9 := Lib.hid (HB.out.trans (hb9.mono HB.out.size))
                clear hb9
                go_wp2
                go_roundw
                case rel => exact ⟨k + 1, y, h, m + 1, by omega, by omega, rfl, rfl, by go_num, by go_num, Lib.hid (phRel_no HRel.out HLK.out HD.out HO.out HP.out he), HT9, HB9⟩
                case measure => simp [intOf]; omega
            · have HDD := Lib.hid (fun w => deed2_any y h w)
              rw [show ((y, (phFlip h).1, (phFlip h).2)) = (y', h', e) from HP.out] at HDD
              by_cases he : e = 0
              · subst he
                go_wp2_with fail
                refine (HDD.out _).mono ?_
                rintro e w9 ⟨rfl, hb9⟩
                have HT9 := Lib.hid (varN_B hb9 HT.out)
                have HB9 := Lib.hid (HB.out.trans (hb9.mono HB.out.size))
                clear hb9
                go_wp2
                go_roundw
                case rel => exact ⟨k + 1, y', h', m, by omega, by omega, rfl, rfl, rfl, by go_num, Lib.hid (phRel_ok HRel.out HLK.out HD.out HO.out HP.out), HT9, HB9⟩
                case measure => simp [intOf]; omega
              · have e0 : (e != 0) = true := by simp [he]
                go_wp2_with fail
                refine (HDD.out _).mono ?_
                rintro e w9 ⟨rfl, hb9⟩
                have HT9 := Lib.hid (varN_B hb9 HT.out)
                have HB9 := Lib.hid (HB.out.trans (hb9.mono HB.out.size))
                clear hb9
                go_wp2
                go_roundw
                case rel => exact ⟨k + 1, y, h, m + 1, by omega, by omega, rfl, rfl, by go_num, by go_num, Lib.hid (phRel_no HRel.out HLK.out HD.out HO.out HP.out he), HT9, HB9⟩
                case measure => simp [intOf]; omega
      · obtain rfl : k = n := by omega
        have H := Lib.hid (phRun_end HR.out HRel.out HL.out)
        go_wp2
        go_returns
        exact phQ_mk (q := (_, _, _, _)) H.out HB.out
end Go.Proofs.Ytkhifcnjilbmlaa
