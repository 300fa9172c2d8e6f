/- The document's own reading (respiteref05): Same. -/
import Derived.Test.YthcogkcjmhjjmaaDoorAsJ
import Derived.Deep.QuietTactic
namespace Go.Proofs.YthcogkcjmhjjmaaDoor
open Go.ChangeShapes Go.WideShapes Go.ChangeAt Go.RowKit
open Gen

set_option maxRecDepth 100000 in
set_option maxHeartbeats 2000000 in
theorem refSame_any (a b : Option Addr) (n m c d : Nat) (xs ys : List Ins) (w : World) (V : Vs repIns Any w a n xs) (U : Vs repIns Any w b m ys) (hn : n ≤ 50001) (hm : m ≤ 50001) :
    Calls Tryd.prog 12 #[.slice a n c, .slice b m d] w (BoolPost (decide (xs = ys)) w) := by
  have hl := V.1
  have hl2 := U.1
  by_cases h : n = m
  · subst h
    go_enter Tryd.func12, Tryd.ntmps12
    go_wp2
    go_loopw [5, 13] (fun _ i wr => ∃ k : Nat, k ≤ n ∧ i = .int .i64 k ∧ Hid (xs.take k = ys.take k) ∧ Hid (Below w.heap.size w wr)) (fun _ i _ => n - (intOf i).toNat)
    case atStart => exact ⟨0, by omega, rfl, (show xs.take 0 = ys.take 0 by simp), Below.refl _ _⟩
    case round =>
      obtain ⟨k, hk, rfl, ht, hb⟩ := hrel
      by_cases hlt : k < n
      · obtain ⟨b1, o1, y1, rfl, hy1, -, hA1⟩ := vs_at (vs_B hb.out V) hlt
        obtain ⟨b2, o2, y2, rfl, hy2, -, hA2⟩ := vs_at (vs_B hb.out U) hlt
        obtain ⟨i0, i1, i2, i3⟩ := y1
        obtain ⟨e0, e1, e2, e3⟩ := y2
        obtain ⟨z0, z1, z2, z3⟩ := ins_at hA1
        obtain ⟨u0, u1, u2, u3⟩ := ins_at hA2
        dsimp only at z0 z1 z2 z3 u0 u1 u2 u3
        rw [show repIns.k = 4 from rfl] at z0 z1 z2 z3 u0 u1 u2 u3
        have j1 : (0 : Int) ≤ k := by omega
        have j2 : (k : Int) < n := by omega
        by_cases he : i0 = e0 ∧ i1 = e1 ∧ i2 = e2 ∧ i3 = e3
        · obtain ⟨rfl, rfl, rfl, rfl⟩ := he
          have HT := Lib.hid (show xs.take (k + 1) = ys.take (k + 1) by rw [List.take_add_one, List.take_add_one, ht.out, hy1, hy2])
          clear hy1 hy2 hA1 hA2
          go_wp2
          go_quiet (fail)
          go_wp2
          go_roundw
          case rel => exact ⟨k + 1, by omega, by go_num, HT.out, below_drewN hb.out nq⟩
          case measure => simp [intOf]; omega
        · have HE := Lib.hid (show decide (xs = ys) = false by
            rw [decide_eq_false_iff_not]; intro e; rw [e, hy2] at hy1; apply he; simpa using hy1.symm)
          have hc : ¬ i0 = e0 ∨ (i0 = e0 ∧ ¬ i1 = e1) ∨ (i0 = e0 ∧ i1 = e1 ∧ ¬ i2 = e2) ∨ (i0 = e0 ∧ i1 = e1 ∧ i2 = e2 ∧ ¬ i3 = e3) := by omega
          clear hy1 hy2 hA1 hA2 he
          rcases hc with q | ⟨rfl, q⟩ | ⟨rfl, rfl, q⟩ | ⟨rfl, rfl, rfl, q⟩
          all_goals
            go_wp2
            go_quiet (fail)
            go_wp2
            go_ret
            exact boolPost_mk HE.out (below_drewN hb.out nq)
      · obtain rfl : k = n := by omega
        have HE := Lib.hid (show decide (xs = ys) = true by
          rw [decide_eq_true_iff]; have := ht.out; rw [List.take_of_length_le (by omega), List.take_of_length_le (by omega)] at this; exact this)
        go_wp2
        go_ret
        exact boolPost_mk HE.out hb.out
  · have h1 : ((n : Int) != m) = true := by simp; omega
    have HE := Lib.hid (show decide (xs = ys) = false by rw [decide_eq_false_iff_not]; intro e; rw [e] at hl; omega)
    go_enter Tryd.func12, Tryd.ntmps12
    go_wp2
    go_ret
    exact boolPost_mk HE.out (Below.refl _ _)
end Go.Proofs.YthcogkcjmhjjmaaDoor
