/- Package asm: the iterator over a text's lines. -/
import Derived.Test.YthcogkcjmhjjmaaDoorAsC
import Derived.RangeFuncNested
import Derived.RangeFuncBox
import Derived.RangeFuncBound
import Derived.RangeFuncCalls
import Derived.RangeFuncLeaves
import Derived.OwnWalkIn
import Derived.TacticsInMore
import Derived.LoopNIn
import Derived.LoopIn
import Derived.Shelf.Abstract
namespace Go.Proofs.YthcogkcjmhjjmaaDoor
open Go.ChangeShapes Go.WideShapes Go.ChangeAt Go.RowKit Go.Shelf
open Gen

attribute [local go_sem] Oper.semAt_some

/-- a line of at most so many bytes, and whether it is ended -/
abbrev Ln := { x : Bs × Bool // x.1.length ≤ 50000 }
def encLn (x : Ln) : Array Value := #[.string (str x.1.1), .bool x.1.2]
def vals (ys : List Ln) : List (Bs × Bool) := ys.map Subtype.val
theorem vals_snoc (ys : List Ln) (x : Ln) : vals (ys ++ [x]) = vals ys ++ [x.1] := by simp [vals]
def strLen : Value → Nat
  | .string s => s.size
  | _ => 0

set_option maxHeartbeats 1000000 in
theorem lines_in (n : Nat) (t : Bs) (w : World) :
    CallsIn Fence.wide n Tryd.prog 22 #[.string (str t)] w fun e w' => e = .returned (.func (.func 50) #[] #[.pointer (some ⟨w.heap.size, 0, none⟩)]) ∧ w' = w.alloc (.cells #[.string (str t)] 9) := by
  refine callsIn_of_wp Tryd.func22 rfl trivial ?_ rfl
  simp only [Tryd.ntmps22, List.size_toArray, List.length_cons, List.length_nil, Nat.reduceAdd, Nat.reduceSub, Array.replicate_succ, Array.replicate_zero, List.push_toArray, List.append_toArray, List.nil_append, List.cons_append]
  gi_wp2
  go_ret
  exact ⟨rfl, rfl⟩

theorem cut_any (r : Bs) (w : World) (hr : r.length ≤ 50000) (G : Glob w) : Calls Tryd.prog 51 #[.string (str r), .string ⟨#[10]⟩] w fun e w' =>
    e = .returned (.tuple #[.string (str (Lib.cut r [10]).1), .string (str (Lib.cut r [10]).2.1), .bool (Lib.cut r [10]).2.2]) ∧ Below w.heap.size w w' ∧ w.grownBy w' none := by
  obtain ⟨m, hm⟩ := G.mlen
  refine (Tryd.strings_Cut (str r) ⟨#[10]⟩ m w (by rw [str_size]; omega) hm).mono ?_
  rintro e w' ⟨rfl, k, rfl⟩
  refine ⟨by rw [str_data], below_drewN (Below.refl _ _) k, ⟨rfl, rfl, rfl, Nat.le_refl _, fun _ _ _ => rfl⟩⟩
set_option maxRecDepth 100000 in
set_option maxHeartbeats 2000000 in
theorem lines1_in (n : Nat) (hn : 1 ≤ n) (l Bx n₀ : Nat) (hn0 : 9 ≤ n₀) (t : Bs) (ht : t.length ≤ 50000) (J Jx : List Ln → World → Prop) (W : World) (hJ : AbidesFrom W.heap.size J)
    (hY : ∀ pre x W1, J pre W1 → pre.length < (linesL t).length → YieldAt Fence.wide (n - 1) Tryd.prog l (encLn x) W1 fun e W' =>
      (e = .returned (.bool true) ∧ J (pre ++ [x]) W' ∧ Below n₀ W1 W') ∨ (e = .returned (.bool false) ∧ Jx (pre ++ [x]) W'))
    (hBx : W.cell? ⟨Bx, 0, none⟩ = some (.string (str t))) (G : Glob W) (h0 : J [] W) :
    CallsIn Fence.wide n Tryd.prog 50 #[.func (.yield l) #[] #[], .pointer (some ⟨Bx, 0, none⟩)] W fun e W' => (∃ v, e = .returned v) ∧
      ((∃ ys, vals ys = linesL t ∧ J ys W') ∨ (∃ pre, vals pre <+: linesL t ∧ Jx pre W')) := by
  have HT := Lib.hid ht
  refine callsIn_of_wp Tryd.func50 rfl trivial ?_ rfl
  simp only [Tryd.ntmps50, List.size_toArray, List.length_cons, List.length_nil, Nat.reduceAdd, Nat.reduceSub, Array.replicate_succ, Array.replicate_zero, List.push_toArray, List.append_toArray, List.nil_append, List.cons_append]
  gi_wp2
  gi_loopw [3] (fun v wr => ∃ (r : Bs) (pre : List Ln), v = .string (str r) ∧ J pre wr ∧ Hid (vals pre ++ linesL r = linesL t ∧ r.length ≤ 50000) ∧ Hid (Glob wr)) (fun v _ => strLen v)
  case atStart => exact ⟨t, [], rfl, h0, ⟨rfl, ht⟩, G⟩
  case round =>
    obtain ⟨r, pre, rfl, hJs, hr, hg⟩ := hrel
    by_cases hne : r = []
    · subst hne
      gi_wp2
      go_end0
      exact ⟨⟨_, rfl⟩, .inl ⟨pre, by have := hr.out.1; rwa [linesL_nil, List.append_nil] at this, hJs⟩⟩
    · have hq : List.isEmpty r = false := by
        rw [← Bool.not_eq_true, List.isEmpty_iff]; exact hne
      have HS := Lib.hid (linesL_step hne)
      have hc := cut_short r
      have hcut := cut_any r wr hr.out.2 hg.out
      obtain ⟨a, b, en, hab⟩ : ∃ a b en, Lib.cut r [10] = (a, b, en) := ⟨_, _, _, rfl⟩
      rw [hab] at hcut hc
      dsimp only at hcut hc
      have HAB := Lib.hid hab
      have HC := Lib.hid (And.intro hc.1 (hc.2 hne))
      have HNE := Lib.hid hne
      clear hab hc hne
      gi_wp2_with (refine ⟨trivial, ?_⟩; gi_at_call 51; refine (callsIn_wide.2 hcut).mono ?_; rintro e w1 ⟨rfl, hb1, hg1⟩)
      have hJ1 : J pre w1 := hJ pre wr w1 none hJs hg1 (fun r h => by cases h)
      have HG1 := Lib.hid (hg.out.B hb1)
      obtain ⟨hr1, hr2⟩ := hr.out
      rw [HS.out, HAB.out] at hr1
      dsimp only at hr1
      have hal : a.length ≤ 50000 := Nat.le_trans HC.out.1 hr2
      have hlen : pre.length < (linesL t).length := by
        rw [← hr1, List.length_append, List.length_cons]; simp [vals]
      obtain ⟨x, hx⟩ : ∃ x : Ln, x.1 = (a, en) := ⟨⟨(a, en), hal⟩, rfl⟩
      obtain ⟨fn, tmps, assign, body, hy, hR⟩ := hY pre x w1 hJ1 hlen
      have HR := Lib.hid hr1
      simp only [encLn, hx] at hy hR
      have HX := Lib.hid hx
      have HL := Lib.hid hr2
      clear hr1 hal hr2 hlen hJ1 hb1 hg1 hcut hx
      gi_wp2
      rw [hy]
      gi_wp2
      refine hR.mono ?_
      rintro e W3 (⟨rfl, hJ3, hk3⟩ | ⟨rfl, hJx3⟩)
      · have HG3 := Lib.hid (HG1.out.low hn0 hk3)
        have HJ3 := Lib.hid hJ3
        clear hJ3 hk3 hR hy
        gi_wp2
        go_roundw
        case rel => exact ⟨b, _, rfl, HJ3.out, ⟨by rw [vals_snoc, List.append_assoc, HX.out]; exact HR.out, by have := HC.out.2; have := HL.out; omega⟩, HG3.out⟩
        case measure => show (str b).size < (str r).size; rw [str_size, str_size]; exact HC.out.2
      · gi_wp2
        refine bodyPost_ret (results_none rfl _ _ _) rfl ?_
        exact ⟨⟨_, rfl⟩, .inr ⟨_, by rw [vals_snoc, HX.out]; exact ⟨linesL b, by rw [List.append_assoc]; exact HR.out⟩, hJx3⟩⟩

theorem lines_stops (n : Nat) (hn : 1 ≤ n) (Bx n₀ : Nat) (hn0 : 9 ≤ n₀) (t : Bs) (ht : t.length ≤ 50000) (w : World) (hc : w.cell? ⟨Bx, 0, none⟩ = some (.string (str t))) (G : Glob w) :
    SeqStopsK Fence.wide n Tryd.prog 50 #[.pointer (some ⟨Bx, 0, none⟩)] encLn (Below n₀) (fun ys => vals ys = linesL t) (fun pre => vals pre <+: linesL t) (linesL t).length w := fun l J Jx W hW hJ _ hY h0 =>
  lines1_in n hn l Bx n₀ hn0 t ht J Jx W hJ hY ((hW.cell (p := ⟨Bx, 0, none⟩) (cell_lt hc)).trans hc) (G.B hW) h0
end Go.Proofs.YthcogkcjmhjjmaaDoor
