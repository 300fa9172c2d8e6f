/- Contracts of the document's own answers of layer 10 (package respiteref10): Some, Least; of the laws' few. -/
import Derived.Test.YtmdkokhlfflokaaWgA
namespace Go.Proofs.Ytmdkokhlfflokaa
open Go.ChangeShapes Go.WideShapes Go.ChangeAt Go.RowKit
open Gen
def NoneC (zs : List Nat) (k : Nat) : Prop := ∀ j x, j < k → zs[j]? = some x → Fl.cnt x = false
theorem noneC_succ {zs : List Nat} {k x : Nat} (h : NoneC zs k) (hx : zs[k]? = some x) (hc : Fl.cnt x = false) : NoneC zs (k + 1) := by
  intro j y hj hy
  by_cases e : j = k
  · subst e; rw [hx] at hy; cases hy; exact hc
  · exact h j y (by omega) hy
theorem someB_no {zs : List Nat} {n : Nat} (hn : zs.length = n) (h : NoneC zs n) : Fl.someB zs = false := by
  rw [Fl.someB, List.any_eq_false]
  intro x hx
  obtain ⟨j, hj, rfl⟩ := List.mem_iff_getElem.1 hx
  rw [h j _ (by omega) (List.getElem?_eq_getElem hj)]; decide
theorem someB_yes {zs : List Nat} {k x : Nat} (hx : zs[k]? = some x) (hc : Fl.cnt x = true) : Fl.someB zs = true := List.any_eq_true.2 ⟨x, List.mem_of_getElem? hx, hc⟩
theorem getD_of {zs : List Nat} {k x : Nat} (h : zs[k]? = some x) : zs.getD k 0 = x := by rw [List.getD_eq_getElem?_getD, h]; rfl

set_option maxHeartbeats 2000000 in
theorem some_any (a : Option Addr) (n c : Nat) (zs : List Nat) (w : World) (S : Vs repFl Any w a n zs) (hz : ∀ z ∈ zs, FlWf z) (hn : n ≤ 1000) : Calls Try.prog 18 #[.slice a n c] w (BoolStill (Fl.someB zs) w) := by
  have HS := Lib.hid S
  have HZ := Lib.hid hz
  have HL := Lib.hid S.1
  clear S hz
  go_enter Try.func18, Try.ntmps18
  go_wp2_with fail
  go_loopw [7] (fun i wr => ∃ k : Nat, k ≤ n ∧ i = .int .i64 k ∧ Hid (NoneC zs k) ∧ wr = w) (fun i _ => n - (intOf i).toNat)
  case atStart => exact ⟨0, Nat.zero_le _, rfl, (fun j x hj => by omega), rfl⟩
  case round =>
    obtain ⟨k, hk, rfl, hno, rfl⟩ := hrel
    by_cases hlt : k < n
    · obtain ⟨b, o, x, rfl, hx, -, g0⟩ := fl_at HS.out hlt
      have i1 : (0 : Int) ≤ k := by omega
      have i2 : (k : Int) < n := by omega
      have HC := Lib.hid (counts_any x wr (HZ.out x (List.mem_of_getElem? hx)))
      have HX := Lib.hid hx
      clear hx
      go_wp2_with fail
      refine HC.out.mono ?_
      rintro e w1 ⟨rfl, rfl⟩
      cases hc : Fl.cnt x with
      | true =>
        have HB := Lib.hid (someB_yes HX.out hc)
        clear hc
        go_wp2
        go_ret
        exact boolStill_mk HB.out rfl
      | false =>
        have HNO := Lib.hid (noneC_succ hno.out HX.out hc)
        clear hc
        go_wp2_with fail
        go_roundw
        case rel => exact ⟨k + 1, by omega, by go_num, HNO.out, trivial⟩
        case measure => simp [intOf]; omega
    · obtain rfl : k = n := by omega
      have HB := Lib.hid (someB_no HL.out hno.out)
      go_wp2
      go_ret
      exact boolStill_mk HB.out rfl

set_option maxHeartbeats 2000000 in
theorem least_any (a : Option Addr) (n c : Nat) (zs : List Nat) (w : World) (S : Vs repFl Any w a n zs) (hz : ∀ z ∈ zs, FlWf z) (hn : n ≤ 1000) (h0 : 0 < n) : Calls Try.prog 12 #[.slice a n c] w (fun e w' => e = .returned (.int .i64 (Fl.leastL zs n : Nat)) ∧ w' = w) := by
  have HS := Lib.hid S
  have HZ := Lib.hid hz
  clear S hz
  go_enter Try.func12, Try.ntmps12
  go_wp2_with fail
  go_loopw [3, 8] (fun kv i wr => ∃ k m : Nat, k ≤ n ∧ m < n ∧ i = .int .i64 k ∧ kv = .int .i64 m ∧ Hid (Fl.leastL zs k = m) ∧ wr = w) (fun _ i _ => n - (intOf i).toNat)
  case atStart => exact ⟨0, 0, Nat.zero_le _, h0, rfl, rfl, (by show Fl.leastL zs 0 = 0; rfl), rfl⟩
  case round =>
    obtain ⟨k, m, hk, hm, rfl, rfl, hl, rfl⟩ := hrel
    by_cases hlt : k < n
    · obtain ⟨b, o, x, rfl, hx, -, g0⟩ := fl_at HS.out hlt
      obtain ⟨_, _, y, e, hy, -, g1⟩ := fl_at HS.out hm
      cases e
      have i1 : (0 : Int) ≤ k := by omega
      have i2 : (k : Int) < n := by omega
      have i3 : (0 : Int) ≤ m := by omega
      have i4 : (m : Int) < n := by omega
      have HC := Lib.hid (ref10Less_any x y wr (HZ.out x (List.mem_of_getElem? hx)) (HZ.out y (List.mem_of_getElem? hy)))
      have HN := Lib.hid (show Fl.leastL zs (k + 1) = if Fl.lessF x y = true then k else m by rw [Fl.leastL, hl.out, getD_of hx, getD_of hy])
      clear hx hy
      go_wp2_with fail
      refine HC.out.mono ?_
      rintro e w1 ⟨rfl, rfl⟩
      cases hc : Fl.lessF x y with
      | true =>
        have HNN := Lib.hid (show Fl.leastL zs (k + 1) = k by rw [HN.out, if_pos hc])
        clear hc
        go_wp2_with fail
        go_roundw
        case rel => exact ⟨k + 1, k, by omega, hlt, by go_num, rfl, HNN.out, trivial⟩
        case measure => simp [intOf]; omega
      | false =>
        have HNN := Lib.hid (show Fl.leastL zs (k + 1) = m by rw [HN.out, if_neg (by rw [hc]; decide)])
        clear hc
        go_wp2_with fail
        go_roundw
        case rel => exact ⟨k + 1, m, by omega, hm, by go_num, rfl, HNN.out, trivial⟩
        case measure => simp [intOf]; omega
    · obtain rfl : k = n := by omega
      go_wp2
      go_ret
      rw [hl.out]
      exact ⟨rfl, rfl⟩

set_option maxHeartbeats 2000000 in
theorem few10_any (a : Option Addr) (n c : Nat) (w : World) (hnc : n ≤ c) (hc : c ≤ 9223372036854775807) : Calls Try.prog 7 #[.slice a n c] w (fun e w' => e = .returned (.slice a (min n 12) c) ∧ w' = w) := by
  by_cases h : n ≤ 12
  · have q0 : ¬ (12 : Int) < (n : Int) := by omega
    have q1 : (n : Int) ≤ c := by omega
    have HM := Lib.hid (show min n 12 = n by omega)
    clear h
    go_enter Try.func7, Try.ntmps7
    go_wp2
    go_ret
    exact ⟨by rw [HM.out]; rfl, rfl⟩
  · have q0 : (12 : Int) < (n : Int) := by omega
    have q1 : (12 : Int) ≤ c := by omega
    have HM := Lib.hid (show min n 12 = 12 by omega)
    clear h
    go_enter Try.func7, Try.ntmps7
    go_wp2
    go_ret
    exact ⟨by rw [HM.out]; rfl, rfl⟩
end Go.Proofs.Ytmdkokhlfflokaa
