/- Contracts of respiteref01: Ints, Same, Right, Count, Load. -/
import Derived.Test.YteojpdhmhjoeiaaRefA
namespace Go.Proofs.Yteojpdhmhjoeiaa
open Go.ChangeShapes Go.WideShapes Go.ChangeAt Go.RowKit

set_option maxHeartbeats 2000000 in
theorem Ints_any (a b : Option Addr) (n c m d : Nat) (xs ys : List Int) (w : World) (S1 : Sl w a n xs) (S2 : Sl w b m ys) (hn : n ≤ 9223372036854775807) :
    Calls Try.prog 45 #[.slice a n c, .slice b m d] w fun e w' => e = .returned (.bool (sameB xs ys)) ∧ Below w.heap.size w w' := by
  have Hx := Lib.hid S1.1
  have Hy := Lib.hid S2.1
  by_cases hl : m = n
  · subst hl
    have q : ((m : Int) != m) = false := by simp
    go_enter Try.func45, Try.ntmps45
    go_wp2
    go_loopw [13] (fun s wr => ∃ k : Nat, k ≤ m ∧ s = .int .i64 k ∧ Hid (SameTo xs ys k) ∧ Below w.heap.size w wr) (fun s _ => m - (intOf s).toNat)
    case atStart => exact ⟨0, by omega, rfl, by intro j hj; omega, Below.refl _ _⟩
    case round =>
      obtain ⟨k, hk, rfl, hs, hb⟩ := hrel
      by_cases hlt : k < m
      · obtain ⟨b1, o1, rfl, R1⟩ := S1.2.resolve_left (by omega)
        obtain ⟨b2, o2, rfl, R2⟩ := S2.2.resolve_left (by omega)
        have g1 := cellB hb (R1 k (by rw [Hx.out]; exact hlt))
        have g2 := cellB hb (R2 k (by rw [Hy.out]; exact hlt))
        generalize hxv : xs.getD k 0 = x at g1
        generalize hyv : ys.getD k 0 = y at g2
        have HX := Lib.hid hxv
        have HY := Lib.hid hyv
        have HB := Lib.hid hb
        have i1 : (0 : Int) ≤ k := by omega
        have i2 : (k : Int) < m := by omega
        clear hxv hyv hb
        by_cases e : x = y
        · have HS := Lib.hid (sameTo_succ hs.out HX.out HY.out e)
          subst e
          have q2 : (x != x) = false := by simp
          go_wp2
          go_quiet (fail)
          go_wp2
          go_roundw
          case rel => exact ⟨k + 1, by omega, by go_num, HS.out, below_drewN HB.out _⟩
          case measure => simp [intOf]; omega
        · have HF := Lib.hid (sameB_at (xs := xs) (ys := ys) k (by rw [HX.out, HY.out]; exact e))
          have q2 : (x != y) = true := by simpa using e
          clear e
          go_wp2
          go_quiet (fail)
          go_wp2
          go_ret
          exact ⟨ret_bool HF.out.symm, below_drewN HB.out _⟩
      · obtain rfl : k = m := by omega
        have HF := Lib.hid (sameB_all (xs := xs) (ys := ys) (by rw [Hx.out, Hy.out]) (by rw [Hx.out]; exact hs.out))
        go_wp2
        go_ret
        exact ⟨ret_bool HF.out.symm, hb⟩
  · have HF := Lib.hid (sameB_len (xs := xs) (ys := ys) (by rw [Hx.out, Hy.out]; omega))
    have q : ((n : Int) != m) = true := by simp; omega
    clear hl
    go_enter Try.func45, Try.ntmps45
    go_wp2
    go_ret
    exact ⟨ret_bool HF.out.symm, Below.refl _ _⟩

theorem Same_any (a b : Option Addr) (n c m d : Nat) (a' b' : Option Addr) (n' c' m' d' : Nat) (xs ys xs' ys' : List Int) (w : World) (S1 : Sl w a n xs) (S2 : Sl w b m ys) (T1 : Sl w a' n' xs') (T2 : Sl w b' m' ys')
    (hn : n ≤ 9223372036854775807) (hm : m ≤ 9223372036854775807) :
    Calls Try.prog 29 #[.agg #[.slice a n c, .slice b m d], .agg #[.slice a' n' c', .slice b' m' d']] w fun e w' => e = .returned (.bool (sameB xs xs' && sameB ys ys')) ∧ Below w.heap.size w w' := by
  go_enter Try.func29, Try.ntmps29
  go_wp2_with fail
  refine (Ints_any a a' n c n' c' xs xs' _ (slA _ (slA _ S1)) (slA _ (slA _ T1)) hn).mono ?_
  rintro e w1 ⟨rfl, hb⟩
  have hb1 : Below w.heap.size w w1 := below_from (by go_grown) hb
  obtain ⟨hc, hf⟩ := bcell hb
  have k1 : w1.cell? ⟨w.heap.size, 1, none⟩ = some (.slice b m d) := cellB hb (cellA _ (by simp))
  have k2 : w1.cell? ⟨w.heap.size + 1, 1, none⟩ = some (.slice b' m' d') := cellB hb (by simp)
  clear hc hf hb
  cases hx : sameB xs xs' with
  | false =>
    have HX := Lib.hid hx
    clear hx
    go_wp2_with fail
    go_ret
    exact ⟨ret_bool (by rw [HX.out]; rfl), hb1⟩
  | true =>
    have HX := Lib.hid hx
    clear hx
    go_wp2_with fail
    refine (Ints_any b b' m d m' d' ys ys' _ (slB hb1 S2) (slB hb1 T2) hm).mono ?_
    rintro e w2 ⟨rfl, hb2⟩
    have hb3 : Below w.heap.size w w2 := below_from hb1 hb2
    generalize hy : sameB ys ys' = r
    have HY := Lib.hid hy
    clear hy hb2
    go_wp2_with fail
    go_ret
    exact ⟨ret_bool (by rw [HX.out, HY.out]; rfl), hb3⟩

def RightPost (r : Bool) (w : World) (e : Ending) (w' : World) : Prop := e = .returned (.bool r) ∧ Below w.heap.size w w'
theorem rightPost_mk {r s : Bool} {w w' : World} (h : r = s) (hb : Below w.heap.size w w') : RightPost r w (.returned (.bool s)) w' := by subst h; exact ⟨rfl, hb⟩

set_option maxHeartbeats 2000000 in
theorem refRight_good (b1 o1 b2 o2 n c1 c2 : Nat) (ws ts : List Int) (w : World) (hw : ws.length = n) (ht : ts.length = n) (R1 : Row w b1 o1 ws) (R2 : Row w b2 o2 ts) (h0 : 1 ≤ n) (h160 : n ≤ 160) :
    Calls Try.prog 31 #[.agg #[.slice (some ⟨b1, o1, none⟩) n c1, .slice (some ⟨b2, o2, none⟩) n c2]] w (RightPost (mayB ws ts) w) := by
  have Hw := Lib.hid hw
  have Ht := Lib.hid ht
  clear hw ht
  have t0 : decide ((n : Int) < 1) = false := by simp; omega
  have t1 : decide (160 < (n : Int)) = false := by simp; omega
  have t2 : ((n : Int) != n) = false := by simp
  go_enter Try.func31, Try.ntmps31
  go_wp2
  go_loop [27] (fun i => ∃ k : Nat, k ≤ n ∧ i = .int .i64 k ∧ Hid (goodTo ws ts k)) (fun i => n - (intOf i).toNat)
  case atStart => exact ⟨0, by omega, rfl, by intro i hi; omega⟩
  case round =>
    obtain ⟨k, hk, rfl, hr⟩ := hrel
    by_cases hlt : k < n
    · have g1 := cellA (Obj.cells #[.slice (some ⟨b1, o1, none⟩) n c1, .slice (some ⟨b2, o2, none⟩) n c2] 25) (R1 k (by rw [Hw.out]; exact hlt))
      have g2 := cellA (Obj.cells #[.slice (some ⟨b1, o1, none⟩) n c1, .slice (some ⟨b2, o2, none⟩) n c2] 25) (R2 k (by rw [Ht.out]; exact hlt))
      generalize htv : ts.getD k 0 = tv at g2
      generalize hwv : ws.getD k 0 = wv at g1
      have Htv := Lib.hid htv
      have Hwv := Lib.hid hwv
      clear htv hwv
      by_cases q1 : tv < 0
      · have H := Lib.hid (may_bad Hw.out hlt Htv.out Hwv.out (.inl q1))
        go_wp2
        go_ret
        exact rightPost_mk H.out (by go_grown)
      · by_cases q2 : 2 < tv
        · have H := Lib.hid (may_bad Hw.out hlt Htv.out Hwv.out (.inr (.inl q2)))
          go_wp2
          go_ret
          exact rightPost_mk H.out (by go_grown)
        · by_cases q3 : tv = 0
          · subst q3
            by_cases q4 : wv = 0
            · subst q4
              have H := Lib.hid (good_next hr.out Htv.out Hwv.out (by omega))
              go_wp2
              go_round
              case rel => exact ⟨k + 1, by omega, by go_num, H.out⟩
              case measure => simp [intOf]; omega
            · have q5 : (wv != 0) = true := by simp [q4]
              have H := Lib.hid (may_bad Hw.out hlt Htv.out Hwv.out (.inr (.inr ⟨rfl, q4⟩)))
              clear q4
              go_wp2
              go_ret
              exact rightPost_mk H.out (by go_grown)
          · have q4 : (tv == 0) = false := by simp [q3]
            have H := Lib.hid (good_next hr.out Htv.out Hwv.out (by omega))
            clear q3
            go_wp2
            go_round
            case rel => exact ⟨k + 1, by omega, by go_num, H.out⟩
            case measure => simp [intOf]; omega
    · obtain rfl : k = n := by omega
      have H := Lib.hid (may_done Hw.out Ht.out h0 h160 hr.out)
      go_wp2
      go_ret
      exact rightPost_mk H.out (by go_grown)

theorem refRight_bad (a a' : Option Addr) (n c n' c' : Nat) (ws ts : List Int) (w : World) (hw : ws.length = n) (ht : ts.length = n') (h : ¬ (1 ≤ n ∧ n ≤ 160 ∧ n' = n)) :
    Calls Try.prog 31 #[.agg #[.slice a n c, .slice a' n' c']] w (RightPost (mayB ws ts) w) := by
  have hm : mayB ws ts = false := by simp [mayB, sizeB, hw, ht, h]
  have Hm := Lib.hid hm
  clear hm hw ht
  by_cases h1 : n < 1
  · have t0 : decide ((n : Int) < 1) = true := by simp; omega
    go_enter Try.func31, Try.ntmps31
    go_wp2
    go_ret
    exact rightPost_mk Hm.out (by go_grown)
  · by_cases h2 : 160 < n
    · have t0 : decide ((n : Int) < 1) = false := by simp; omega
      have t1 : decide (160 < (n : Int)) = true := by simp; omega
      go_enter Try.func31, Try.ntmps31
      go_wp2
      go_ret
      exact rightPost_mk Hm.out (by go_grown)
    · have t0 : decide ((n : Int) < 1) = false := by simp; omega
      have t1 : decide (160 < (n : Int)) = false := by simp; omega
      have t2 : ((n' : Int) != n) = true := by simp; omega
      go_enter Try.func31, Try.ntmps31
      go_wp2
      go_ret
      exact rightPost_mk Hm.out (by go_grown)

theorem refRight_any (a a' : Option Addr) (n c n' c' : Nat) (ws ts : List Int) (w : World) (S1 : Sl w a n ws) (S2 : Sl w a' n' ts) :
    Calls Try.prog 31 #[.agg #[.slice a n c, .slice a' n' c']] w fun e w' => e = .returned (.bool (mayB ws ts)) ∧ Below w.heap.size w w' := by
  by_cases h : 1 ≤ n ∧ n ≤ 160 ∧ n' = n
  · obtain ⟨h0, h1, rfl⟩ := h
    obtain ⟨hw, b1, o1, rfl, R1⟩ := sl_some S1 h0
    obtain ⟨ht, b2, o2, rfl, R2⟩ := sl_some S2 h0
    exact refRight_good b1 o1 b2 o2 n' c c' ws ts w hw ht R1 R2 h0 h1
  · exact refRight_bad a a' n c n' c' ws ts w S1.1 S2.1 h

set_option maxHeartbeats 2000000 in
theorem refLoad_any (a a' : Option Addr) (n c n' c' : Nat) (ws ts : List Int) (i : Int) (w : World) (S1 : Sl w a n ws) (S2 : Sl w a' n' ts) (hm : mayB ws ts = true) :
    Calls Try.prog 33 #[.agg #[.slice a n c, .slice a' n' c'], .int .i64 i] w fun e w' => e = .returned (.tuple #[.int .i64 (loadZ ws ts i), .int .i64 (usableZ ws ts i)]) ∧ Below w.heap.size w w' := by
  obtain ⟨z0, z1, z2⟩ := mayB_size hm
  have hn := S1.1
  have hn' := S2.1
  obtain rfl : n' = n := by omega
  obtain ⟨-, b1, o1, rfl, R1⟩ := sl_some S1 (by omega)
  obtain ⟨-, b2, o2, rfl, R2⟩ := sl_some S2 (by omega)
  have z4 : n' ≤ 160 := by omega
  by_cases h0 : i < 0
  · have HE := Lib.hid (show usableZ ws ts i = 3 by rw [usableZ, if_pos hm, if_neg (by omega)])
    have HV := Lib.hid (show loadZ ws ts i = 0 by rw [loadZ, HE.out, if_neg (by decide)])
    clear hm hn hn' z0 z1 z2
    go_enter Try.func33, Try.ntmps33
    go_wp2
    go_ret2
    exact ⟨ret_two HV.out.symm HE.out.symm, by go_grown⟩
  · obtain ⟨k, rfl⟩ := Int.eq_ofNat_of_zero_le (show 0 ≤ i by omega)
    by_cases h1 : k < n'
    · have ht := mayB_tag hm k (by omega)
      have HE := Lib.hid (show usableZ ws ts (k : Int) = useE (ts.getD k 0) by rw [usableZ, if_pos hm, if_pos ⟨by omega, by omega⟩]; simp)
      have HV := Lib.hid (show loadZ ws ts (k : Int) = if useE (ts.getD k 0) = 0 then ws.getD k 0 else 0 by rw [loadZ, HE.out]; simp)
      have g1 := cellA (Obj.cells #[.slice (some ⟨b1, o1, none⟩) n' c, .slice (some ⟨b2, o2, none⟩) n' c'] 25) (R1 k (by omega))
      have g2 := cellA (Obj.cells #[.slice (some ⟨b1, o1, none⟩) n' c, .slice (some ⟨b2, o2, none⟩) n' c'] 25) (R2 k (by omega))
      generalize ts.getD k 0 = tv at ht HE HV g2
      generalize ws.getD k 0 = wv at HV g1
      have ht' : tv = 0 ∨ tv = 1 ∨ tv = 2 := by omega
      clear hm hn hn' z0 z1 z2 ht
      rcases ht' with rfl | rfl | rfl
      all_goals
        go_enter Try.func33, Try.ntmps33
        go_wp2
        go_ret2
        exact ⟨ret_two (by rw [HV.out]; rfl) (by rw [HE.out]; rfl), by go_grown⟩
    · have HE := Lib.hid (show usableZ ws ts (k : Int) = 3 by rw [usableZ, if_pos hm, if_neg (by omega)])
      have HV := Lib.hid (show loadZ ws ts (k : Int) = 0 by rw [loadZ, HE.out, if_neg (by decide)])
      clear hm hn hn' z0 z1 z2
      go_enter Try.func33, Try.ntmps33
      go_wp2
      go_ret2
      exact ⟨ret_two HV.out.symm HE.out.symm, by go_grown⟩

def CntPost (x : Int) (w : World) (e : Ending) (w' : World) : Prop := e = .returned (.int .i64 x) ∧ Below w.heap.size w w'
end Go.Proofs.Yteojpdhmhjoeiaa
