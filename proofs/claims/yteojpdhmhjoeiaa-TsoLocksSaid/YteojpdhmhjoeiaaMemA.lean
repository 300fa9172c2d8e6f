/- Contracts of package memory's own small functions: within, tally, Right, whyNotUsed, whyNotTaken, usable, Count. -/
import Derived.Test.YteojpdhmhjoeiaaBase
namespace Go.Proofs.Yteojpdhmhjoeiaa
open Go.ChangeShapes Go.WideShapes Go.ChangeAt Go.RowKit

theorem within_any (a b : Option Addr) (n c n' c' : Nat) (i k : Int) (w : World) (hn : n ≤ 160) (ha : -9223372036854775808 ≤ i) (ha2 : i ≤ 9223372036854775807) :
    Calls Try.prog 72 #[.agg #[.slice a n c, .slice b n' c'], .int .i64 i, .int .i64 k] w fun e w' => e = .returned (.bool (withinB n i k)) ∧ Below w.heap.size w w' := by
  by_cases h1 : 1 ≤ k
  · by_cases h2 : 0 ≤ i
    · by_cases h3 : k ≤ n - i
      · go_enter Try.func72, Try.ntmps72
        go_wp2
        go_ret
        exact ⟨ret_bool (by simp [withinB]; omega), by go_grown⟩
      · go_enter Try.func72, Try.ntmps72
        go_wp2
        go_ret
        exact ⟨ret_bool (by simp [withinB]; omega), by go_grown⟩
    · go_enter Try.func72, Try.ntmps72
      go_wp2
      go_ret
      exact ⟨ret_bool (by simp [withinB]; omega), by go_grown⟩
  · go_enter Try.func72, Try.ntmps72
    go_wp2
    go_ret
    exact ⟨ret_bool (by simp [withinB]; omega), by go_grown⟩

def TallyPost (ws ts : List Int) (w : World) (e : Ending) (w' : World) : Prop :=
  ∃ x y z : Int, e = .returned (.tuple #[.agg #[.int .i64 x, .int .i64 y, .int .i64 z], .bool (mayB ws ts)]) ∧ (mayB ws ts = true → x = cnt ts 0 ∧ y = cnt ts 1 ∧ z = cnt ts 2) ∧ Below w.heap.size w w'

theorem tally_mk {ws ts : List Int} {w w' : World} {x y z : Int} {r : Bool} (h : mayB ws ts = r) (hc : r = true → x = cnt ts 0 ∧ y = cnt ts 1 ∧ z = cnt ts 2) (hb : Below w.heap.size w w') :
    TallyPost ws ts w (.returned (.tuple #[.agg #[.int .i64 x, .int .i64 y, .int .i64 z], .bool r])) w' := by
  subst h; exact ⟨x, y, z, rfl, hc, hb⟩
theorem may_bad {ws ts : List Int} {n k : Nat} (hw : ws.length = n) (hk : k < n) {t v : Int} (ht : ts.getD k 0 = t) (hv : ws.getD k 0 = v) (h : t < 0 ∨ 2 < t ∨ (t = 0 ∧ v ≠ 0)) : mayB ws ts = false := by
  have : goodB ws ts ws.length = false := good_not (k := k) (by omega) (by
    simp only [okB, ht, hv, decide_eq_false_iff_not]; omega)
  simp [mayB, this]
theorem may_done {ws ts : List Int} {n : Nat} (hw : ws.length = n) (ht : ts.length = n) (h0 : 1 ≤ n) (h1 : n ≤ 160) (hg : goodTo ws ts n) : mayB ws ts = true := by
  have : goodB ws ts ws.length = true := goodB_iff.2 (by rw [hw]; exact hg)
  simp [mayB, this, sizeB]; omega
theorem good_next {ws ts : List Int} {k : Nat} {t v : Int} (hg : goodTo ws ts k) (ht : ts.getD k 0 = t) (hv : ws.getD k 0 = v) (h : 0 ≤ t ∧ t ≤ 2 ∧ (t = 0 → v = 0)) : goodTo ws ts (k + 1) :=
  good_step hg (by simp only [okB, ht, hv, decide_eq_true_eq]; exact h)

def TallyRel (ws ts : List Int) (k x y z : Nat) : Prop := goodTo ws ts k ∧ x = cnt (ts.take k) 0 ∧ y = cnt (ts.take k) 1 ∧ z = cnt (ts.take k) 2
theorem rel_next {ws ts : List Int} {k x y z : Nat} {t v : Int} (hk : k < ts.length) (hr : TallyRel ws ts k x y z) (ht : ts.getD k 0 = t) (hv : ws.getD k 0 = v) (h : 0 ≤ t ∧ t ≤ 2 ∧ (t = 0 → v = 0)) :
    TallyRel ws ts (k + 1) (x + if t = 0 then 1 else 0) (y + if t = 1 then 1 else 0) (z + if t = 2 then 1 else 0) := by
  obtain ⟨h1, h2, h3, h4⟩ := hr
  refine ⟨good_next h1 ht hv h, ?_, ?_, ?_⟩
  · rw [cnt_take 0 hk, ht, h2]
  · rw [cnt_take 1 hk, ht, h3]
  · rw [cnt_take 2 hk, ht, h4]

set_option maxHeartbeats 2000000 in
theorem tally_good (b1 o1 b2 o2 n c1 c2 : Nat) (ws ts : List Int) (w : World) (hw : ws.length = n) (ht : ts.length = n) (R1 : Row w b1 o1 ws) (R2 : Row w b2 o2 ts) (h0 : 1 ≤ n) (h160 : n ≤ 160) :
    Calls Try.prog 75 #[.agg #[.slice (some ⟨b1, o1, none⟩) n c1, .slice (some ⟨b2, o2, none⟩) n c2]] w (TallyPost ws ts w) := by
  have Hw := Lib.hid hw
  have Ht := Lib.hid ht
  clear hw ht
  have t0 : decide ((n : Int) < 1) = false := by simp; omega
  have t1 : decide (160 < (n : Int)) = false := by simp; omega
  have t2 : ((n : Int) != n) = false := by simp
  go_enter Try.func75, Try.ntmps75
  go_wp2
  go_loopw [30] (fun i wr => ∃ k : Nat, k ≤ n ∧ i = .int .i64 k ∧ ∃ x y z : Nat, x ≤ k ∧ y ≤ k ∧ z ≤ k ∧ TallyRel ws ts k x y z ∧ wr = ((w.alloc (Obj.cells #[.slice (some ⟨b1, o1, none⟩) n c1, .slice (some ⟨b2, o2, none⟩) n c2] 25)).alloc (Obj.cells #[.int .i64 0, .int .i64 0, .int .i64 0] 120)).alloc (Obj.cells #[.int .i64 (x : Int), .int .i64 (y : Int), .int .i64 (z : Int)] 120)) (fun i _ => n - (intOf i).toNat)
  case atStart => exact ⟨0, by omega, rfl, 0, 0, 0, by omega, by omega, by omega, ⟨by intro i hi; omega, rfl, rfl, rfl⟩, rfl⟩
  case round =>
    obtain ⟨k, hk, rfl, x, y, z, hx, hy, hz, hr, rfl⟩ := hrel
    by_cases hlt : k < n
    · have g1 := R1 k (by rw [Hw.out]; exact hlt)
      have g2 := R2 k (by rw [Ht.out]; exact hlt)
      have HK := Lib.hid (show k < ts.length by rw [Ht.out]; exact hlt)
      generalize htv : ts.getD k 0 = tv at g2
      generalize hwv : ws.getD k 0 = wv at g1
      replace g1 := cellA (Obj.cells #[.int .i64 (x : Int), .int .i64 (y : Int), .int .i64 (z : Int)] 120) (cellA (Obj.cells #[.int .i64 0, .int .i64 0, .int .i64 0] 120) (cellA (Obj.cells #[.slice (some ⟨b1, o1, none⟩) n c1, .slice (some ⟨b2, o2, none⟩) n c2] 25) g1))
      replace g2 := cellA (Obj.cells #[.int .i64 (x : Int), .int .i64 (y : Int), .int .i64 (z : Int)] 120) (cellA (Obj.cells #[.int .i64 0, .int .i64 0, .int .i64 0] 120) (cellA (Obj.cells #[.slice (some ⟨b1, o1, none⟩) n c1, .slice (some ⟨b2, o2, none⟩) n c2] 25) g2))
      have Htv := Lib.hid htv
      have Hwv := Lib.hid hwv
      clear htv hwv
      by_cases q1 : tv < 0
      · go_wp2
        go_returns
        exact tally_mk (may_bad Hw.out hlt Htv.out Hwv.out (.inl q1)) (by simp) (by go_grown)
      · by_cases q2 : 2 < tv
        · go_wp2
          go_returns
          exact tally_mk (may_bad Hw.out hlt Htv.out Hwv.out (.inr (.inl q2))) (by simp) (by go_grown)
        · by_cases q3 : tv = 0
          · subst q3
            by_cases q4 : wv = 0
            · subst q4
              have H := Lib.hid (rel_next HK.out hr Htv.out Hwv.out (by omega))
              go_wp2
              go_roundw
              case rel => exact ⟨k + 1, by omega, by go_num, x + 1, y, z, by omega, by omega, by omega, by simpa using H.out, by simp⟩
              case measure => simp [intOf]; omega
            · have q5 : (wv != 0) = true := by simp [q4]
              have H := Lib.hid (may_bad Hw.out hlt Htv.out Hwv.out (.inr (.inr ⟨rfl, q4⟩)))
              go_wp2
              go_returns
              exact tally_mk H.out (by simp) (by go_grown)
          · have q4 : (tv == 0) = false := by simp [q3]
            have q6 : tv = 1 ∨ tv = 2 := by omega
            have H := Lib.hid (rel_next HK.out hr Htv.out Hwv.out (by omega))
            rcases q6 with rfl | rfl
            · go_wp2
              go_roundw
              case rel => exact ⟨k + 1, by omega, by go_num, x, y + 1, z, by omega, by omega, by omega, by simpa using H.out, by simp⟩
              case measure => simp [intOf]; omega
            · go_wp2
              go_roundw
              case rel => exact ⟨k + 1, by omega, by go_num, x, y, z + 1, by omega, by omega, by omega, by simpa using H.out, by simp⟩
              case measure => simp [intOf]; omega
    · obtain rfl : k = n := by omega
      obtain ⟨H1, H2, H3, H4⟩ := hr
      have E : ts.take k = ts := List.take_of_length_le (by rw [Ht.out]; omega)
      rw [E] at H2 H3 H4
      have H5 := Lib.hid H2
      have H6 := Lib.hid H3
      have H7 := Lib.hid H4
      clear E H2 H3 H4
      go_wp2
      go_returns
      exact tally_mk (may_done Hw.out Ht.out h0 h160 H1) (fun _ => ⟨by rw [H5.out], by rw [H6.out], by rw [H7.out]⟩) (by go_grown)

theorem tally_bad (a a' : Option Addr) (n c n' c' : Nat) (ws ts : List Int) (w : World) (hw : ws.length = n) (ht : ts.length = n') (h : ¬ (1 ≤ n ∧ n ≤ 160 ∧ n' = n)) :
    Calls Try.prog 75 #[.agg #[.slice a n c, .slice a' n' c']] w (TallyPost ws ts w) := by
  have hm : mayB ws ts = false := by simp [mayB, sizeB, hw, ht, h]
  have Hm := Lib.hid hm
  clear hm hw ht
  by_cases h1 : n < 1
  · have t0 : decide ((n : Int) < 1) = true := by simp; omega
    go_enter Try.func75, Try.ntmps75
    go_wp2
    go_returns
    exact tally_mk Hm.out (by simp) (by go_grown)
  · by_cases h2 : 160 < n
    · have t0 : decide ((n : Int) < 1) = false := by simp; omega
      have t1 : decide (160 < (n : Int)) = true := by simp; omega
      go_enter Try.func75, Try.ntmps75
      go_wp2
      go_returns
      exact tally_mk Hm.out (by simp) (by go_grown)
    · have t0 : decide ((n : Int) < 1) = false := by simp; omega
      have t1 : decide (160 < (n : Int)) = false := by simp; omega
      have t2 : ((n' : Int) != n) = true := by simp; omega
      go_enter Try.func75, Try.ntmps75
      go_wp2
      go_returns
      exact tally_mk Hm.out (by simp) (by go_grown)

theorem tally_any (a a' : Option Addr) (n c n' c' : Nat) (ws ts : List Int) (w : World) (S1 : Sl w a n ws) (S2 : Sl w a' n' ts) :
    Calls Try.prog 75 #[.agg #[.slice a n c, .slice a' n' c']] w (TallyPost ws ts w) := by
  by_cases h : 1 ≤ n ∧ n ≤ 160 ∧ n' = n
  · obtain ⟨h0, h1, rfl⟩ := h
    obtain ⟨hw, b1, o1, rfl, R1⟩ := sl_some S1 h0
    obtain ⟨ht, b2, o2, rfl, R2⟩ := sl_some S2 h0
    exact tally_good b1 o1 b2 o2 n' c c' ws ts w hw ht R1 R2 h0 h1
  · exact tally_bad a a' n c n' c' ws ts w S1.1 S2.1 h

end Go.Proofs.Yteojpdhmhjoeiaa
