/- Package weigh: first, Least. -/
import Derived.Test.YtmdkokhlfflokaaWhA
namespace Go.Proofs.Ytmdkokhlfflokaa
open Go.ChangeShapes Go.WideShapes Go.ChangeAt Go.RowKit
open Gen
set_option maxHeartbeats 4000000 in
theorem aheadL_any (g : Nat) (a : Option Addr) (n c : Nat) (zs : List Nat) (i j x y : Nat) (w : World) (X : VarN w g [.slice a n c]) (S : Vs repFl Any w a n zs) (hi : i < n) (hj : j < n) (hx : zs[i]? = some x) (hy : zs[j]? = some y) (wx : FlWf x) (wy : FlWf y) :
    Calls Try.prog 21 #[.int .i64 i, .int .i64 j, .pointer (some ⟨g, 0, none⟩)] w (fun e w' => e = .returned (.bool (Fl.lessF x y)) ∧ Below w.heap.size w w') := by
  obtain ⟨b, o, x', rfl, hx', -, g0⟩ := fl_at S hi
  obtain ⟨_, _, y', e, hy', -, g1⟩ := fl_at S hj
  cases e
  rw [hx] at hx'
  cases hx'
  rw [hy] at hy'
  cases hy'
  have xg := (X 0 _ rfl).1
  have i1 : (0 : Int) ≤ i := by omega
  have i2 : (i : Int) < n := by omega
  have i3 : (0 : Int) ≤ j := by omega
  have i4 : (j : Int) < n := by omega
  have HC := Lib.hid (fun u => wLess_any x y u wx wy)
  clear X S hx hy wx wy
  go_enter Try.func21, Try.ntmps21
  go_upto_region 1 with fail
  go_quiet ((go_at_call 10; exact Calls.quiet_of_same (HC.out _)))
  go_wp2
  go_ret
  exact ⟨rfl, below_drewN (Below.refl _ _) nq⟩
set_option maxHeartbeats 4000000 in
theorem firstL_any (g : Nat) (a : Option Addr) (n c : Nat) (zs : List Nat) (w : World) (X : VarN w g [.slice a n c]) (S : Vs repFl Any w a n zs) (hz : ∀ z ∈ zs, FlWf z) (hn : n ≤ 1000) (h0 : 0 < n) :
    Calls Try.prog 20 #[.int .i64 n, .func (.func 21) #[] #[.pointer (some ⟨g, 0, none⟩)]] w (fun e w' => e = .returned (.int .i64 (Fl.leastL zs n : Nat)) ∧ Below w.heap.size w w') := by
  have HX := Lib.hid X
  have HS := Lib.hid S
  have HZ := Lib.hid hz
  have HC := Lib.hid (fun u (b : Below w.heap.size w u) (i j x y : Nat) (hi : i < n) (hj : j < n) (hx : zs[i]? = some x) (hy : zs[j]? = some y) => aheadL_any g a n c zs i j x y u (varN_B b X) (vs_B b S) hi hj hx hy (hz x (List.mem_of_getElem? hx)) (hz y (List.mem_of_getElem? hy)))
  clear X S hz
  go_enter Try.func20, Try.ntmps20
  go_wp2_with fail
  go_loopw [5, 8] (fun kv i wr => ∃ k m : Nat, k ≤ n ∧ m < n ∧ i = .int .i64 k ∧ kv = .int .i64 m ∧ Hid (Fl.leastL zs k = m) ∧ Below w.heap.size w wr) (fun _ i _ => n - (intOf i).toNat)
  case atStart => exact ⟨0, 0, Nat.zero_le _, h0, rfl, rfl, (by show Fl.leastL zs 0 = 0; rfl), Below.refl _ _⟩
  case round =>
    obtain ⟨k, m, hk, hm, rfl, rfl, hl, hb⟩ := hrel
    have HB := Lib.hid hb
    by_cases hlt : k < n
    · obtain ⟨b, o, x, -, hx, -, -⟩ := fl_at HS.out hlt
      obtain ⟨_, _, y, -, hy, -, -⟩ := fl_at HS.out hm
      have i1 : (k : Int) < n := by omega
      have HH := Lib.hid (HC.out wr hb k m x y hlt hm hx hy)
      have HN := Lib.hid (show Fl.leastL zs (k + 1) = if Fl.lessF x y = true then k else m by rw [Fl.leastL, hl.out, getD_of hx, getD_of hy])
      clear hx hy hb
      go_wp2_with fail
      refine HH.out.mono ?_
      rintro e w1 ⟨rfl, hb1⟩
      have HB1 := Lib.hid (below_from HB.out hb1)
      clear hb1
      cases hc : Fl.lessF x y with
      | true =>
        have HNN := Lib.hid (show Fl.leastL zs (k + 1) = k by rw [HN.out, if_pos hc])
        clear hc
        go_wp2_with fail
        go_roundw
        case rel => exact ⟨k + 1, k, by omega, hlt, by go_num, rfl, HNN.out, HB1.out⟩
        case measure => simp [intOf]; omega
      | false =>
        have HNN := Lib.hid (show Fl.leastL zs (k + 1) = m by rw [HN.out, if_neg (by rw [hc]; decide)])
        clear hc
        go_wp2_with fail
        go_roundw
        case rel => exact ⟨k + 1, m, by omega, hm, by go_num, rfl, HNN.out, HB1.out⟩
        case measure => simp [intOf]; omega
    · obtain rfl : k = n := by omega
      clear hb
      go_wp2
      go_ret
      rw [hl.out]
      exact ⟨rfl, HB.out⟩
set_option maxHeartbeats 4000000 in
theorem aheadP_any (g : Nat) (a : Option Addr) (n c : Nat) (zs : List Nat) (i j x y : Nat) (w : World) (X : VarN w g [.slice a n c]) (S : Vs repFl Any w a n zs) (hi : i < n) (hj : j < n) (hx : zs[i]? = some x) (hy : zs[j]? = some y) (wx : FlWf x) (wy : FlWf y) :
    Calls Try.prog 26 #[.int .i64 i, .int .i64 j, .pointer (some ⟨g, 0, none⟩)] w (fun e w' => e = .returned (.bool (Fl.lessF x y)) ∧ Below w.heap.size w w') := by
  obtain ⟨b, o, x', rfl, hx', -, g0⟩ := fl_at S hi
  obtain ⟨_, _, y', e, hy', -, g1⟩ := fl_at S hj
  cases e
  rw [hx] at hx'
  cases hx'
  rw [hy] at hy'
  cases hy'
  have xg := (X 0 _ rfl).1
  have i1 : (0 : Int) ≤ i := by omega
  have i2 : (i : Int) < n := by omega
  have i3 : (0 : Int) ≤ j := by omega
  have i4 : (j : Int) < n := by omega
  have HC := Lib.hid (fun u => wLess_any x y u wx wy)
  clear X S hx hy wx wy
  go_enter Try.func26, Try.ntmps26
  go_upto_region 1 with fail
  go_quiet ((go_at_call 10; exact Calls.quiet_of_same (HC.out _)))
  go_wp2
  go_ret
  exact ⟨rfl, below_drewN (Below.refl _ _) nq⟩
set_option maxHeartbeats 4000000 in
theorem firstP_any (g : Nat) (a : Option Addr) (n c : Nat) (zs : List Nat) (w : World) (X : VarN w g [.slice a n c]) (S : Vs repFl Any w a n zs) (hz : ∀ z ∈ zs, FlWf z) (hn : n ≤ 1000) (h0 : 0 < n) :
    Calls Try.prog 20 #[.int .i64 n, .func (.func 26) #[] #[.pointer (some ⟨g, 0, none⟩)]] w (fun e w' => e = .returned (.int .i64 (Fl.leastL zs n : Nat)) ∧ Below w.heap.size w w') := by
  have HX := Lib.hid X
  have HS := Lib.hid S
  have HZ := Lib.hid hz
  have HC := Lib.hid (fun u (b : Below w.heap.size w u) (i j x y : Nat) (hi : i < n) (hj : j < n) (hx : zs[i]? = some x) (hy : zs[j]? = some y) => aheadP_any g a n c zs i j x y u (varN_B b X) (vs_B b S) hi hj hx hy (hz x (List.mem_of_getElem? hx)) (hz y (List.mem_of_getElem? hy)))
  clear X S hz
  go_enter Try.func20, Try.ntmps20
  go_wp2_with fail
  go_loopw [5, 8] (fun kv i wr => ∃ k m : Nat, k ≤ n ∧ m < n ∧ i = .int .i64 k ∧ kv = .int .i64 m ∧ Hid (Fl.leastL zs k = m) ∧ Below w.heap.size w wr) (fun _ i _ => n - (intOf i).toNat)
  case atStart => exact ⟨0, 0, Nat.zero_le _, h0, rfl, rfl, (by show Fl.leastL zs 0 = 0; rfl), Below.refl _ _⟩
  case round =>
    obtain ⟨k, m, hk, hm, rfl, rfl, hl, hb⟩ := hrel
    have HB := Lib.hid hb
    by_cases hlt : k < n
    · obtain ⟨b, o, x, -, hx, -, -⟩ := fl_at HS.out hlt
      obtain ⟨_, _, y, -, hy, -, -⟩ := fl_at HS.out hm
      have i1 : (k : Int) < n := by omega
      have HH := Lib.hid (HC.out wr hb k m x y hlt hm hx hy)
      have HN := Lib.hid (show Fl.leastL zs (k + 1) = if Fl.lessF x y = true then k else m by rw [Fl.leastL, hl.out, getD_of hx, getD_of hy])
      clear hx hy hb
      go_wp2_with fail
      refine HH.out.mono ?_
      rintro e w1 ⟨rfl, hb1⟩
      have HB1 := Lib.hid (below_from HB.out hb1)
      clear hb1
      cases hc : Fl.lessF x y with
      | true =>
        have HNN := Lib.hid (show Fl.leastL zs (k + 1) = k by rw [HN.out, if_pos hc])
        clear hc
        go_wp2_with fail
        go_roundw
        case rel => exact ⟨k + 1, k, by omega, hlt, by go_num, rfl, HNN.out, HB1.out⟩
        case measure => simp [intOf]; omega
      | false =>
        have HNN := Lib.hid (show Fl.leastL zs (k + 1) = m by rw [HN.out, if_neg (by rw [hc]; decide)])
        clear hc
        go_wp2_with fail
        go_roundw
        case rel => exact ⟨k + 1, m, by omega, hm, by go_num, rfl, HNN.out, HB1.out⟩
        case measure => simp [intOf]; omega
    · obtain rfl : k = n := by omega
      clear hb
      go_wp2
      go_ret
      rw [hl.out]
      exact ⟨rfl, HB.out⟩
set_option maxHeartbeats 4000000 in
theorem wLeast_any (a : Option Addr) (n c : Nat) (zs : List Nat) (w : World) (S : Vs repFl Any w a n zs) (hz : ∀ z ∈ zs, FlWf z) (hn : n ≤ 1000) :
    Calls Try.prog 8 #[.slice a n c] w (fun e w' => e = .returned (.tuple #[.int .i64 (if n = 0 then 0 else (Fl.leastL zs n : Nat)), .int .i64 (if n = 0 then 8 else 0)]) ∧ Below w.heap.size w w') := by
  obtain ⟨W1, hW1⟩ : ∃ X, X = w.alloc (Obj.cells #[.slice a n c] 22) := ⟨_, rfl⟩
  have hb1 : Below w.heap.size w W1 := by rw [hW1]; go_grown
  have X1 : VarN W1 w.heap.size [.slice a n c] := by rw [hW1]; exact varN_new _ _ rfl
  have xg := (X1 0 _ rfl).1
  have HB := Lib.hid hb1
  have HW := Lib.hid hW1
  by_cases h0 : n = 0
  · subst h0
    rw [if_pos rfl, if_pos rfl]
    clear hb1 hW1 X1 S hz
    go_enter Try.func8, Try.ntmps8
    go_upto_region 1 with fail
    rw [← HW.out]
    go_wp2
    go_ret2
    exact ⟨rfl, HB.out⟩
  · rw [if_neg h0, if_neg h0]
    have HC := Lib.hid (firstL_any w.heap.size a n c zs W1 X1 (vs_B hb1 S) hz hn (by omega))
    obtain ⟨lk, hlk⟩ : ∃ k, Fl.leastL zs n = k := ⟨_, rfl⟩
    rw [hlk] at HC ⊢
    have i0 : ((n : Int) == 0) = false := by simp; omega
    clear hb1 hW1 X1 S hz hlk
    go_enter Try.func8, Try.ntmps8
    go_upto_region 1 with fail
    rw [← HW.out]
    go_wp2_with fail
    refine HC.out.mono ?_
    rintro e w1 ⟨rfl, hb2⟩
    have HB2 := Lib.hid (below_from HB.out hb2)
    clear hb2
    go_wp2
    go_ret2
    exact ⟨rfl, HB2.out⟩
end Go.Proofs.Ytmdkokhlfflokaa
