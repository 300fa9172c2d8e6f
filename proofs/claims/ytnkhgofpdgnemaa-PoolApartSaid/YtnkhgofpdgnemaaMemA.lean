/- Contracts of package memory's own small functions: within, tally, Right, whyNotUsed, whyNotTaken, usable, Count. -/
import Derived.Test.YtnkhgofpdgnemaaBase
namespace Go.Proofs.Ytnkhgofpdgnemaa
open Go.ChangeShapes Go.WideShapes Go.ChangeAt Go.RowKit

def TallyPost (ws ts : List Int) (w : World) (e : Ending) (w' : World) : Prop :=
  ∃ x y z : Int, e = .returned (.tuple #[.agg #[.int .i64 x, .int .i64 y, .int .i64 z], .bool (mayB ws ts)]) ∧ (mayB ws ts = true → x = cnt ts 0 ∧ y = cnt ts 1 ∧ z = cnt ts 2) ∧ Below w.heap.size w w'

theorem tally_mk {ws ts : List Int} {w w' : World} {x y z : Int} {r : Bool} (h : mayB ws ts = r) (hc : r = true → x = cnt ts 0 ∧ y = cnt ts 1 ∧ z = cnt ts 2) (hb : Below w.heap.size w w') :
    TallyPost ws ts w (.returned (.tuple #[.agg #[.int .i64 x, .int .i64 y, .int .i64 z], .bool r])) w' := by
  subst h; exact ⟨x, y, z, rfl, hc, hb⟩
theorem may_bad {ws ts : List Int} {n k : Nat} (hw : ws.length = n) (hk : k < n) {t v : Int} (ht : ts.getD k 0 = t) (hv : ws.getD k 0 = v) (h : t < 0 ∨ 2 < t ∨ (t = 0 ∧ v ≠ 0)) : mayB ws ts = false := by
  have : goodB ws ts ws.length = false := good_not (k := k) (by omega) (by
    simp only [okB, ht, hv, decide_eq_false_iff_not]; omega)
  simp [mayB, this]
theorem may_done {ws ts : List Int} {n : Nat} (hw : ws.length = n) (ht : ts.length = n) (h0 : 1 ≤ n) (h1 : n ≤ 160) (hg : goodTo ws ts n) : mayB ws ts = true := by
  have : goodB ws ts ws.length = true := goodB_iff.2 (by rw [hw]; exact hg)
  simp [mayB, this, sizeB]; omega
theorem good_next {ws ts : List Int} {k : Nat} {t v : Int} (hg : goodTo ws ts k) (ht : ts.getD k 0 = t) (hv : ws.getD k 0 = v) (h : 0 ≤ t ∧ t ≤ 2 ∧ (t = 0 → v = 0)) : goodTo ws ts (k + 1) :=
  good_step hg (by simp only [okB, ht, hv, decide_eq_true_eq]; exact h)

def TallyRel (ws ts : List Int) (k x y z : Nat) : Prop := goodTo ws ts k ∧ x = cnt (ts.take k) 0 ∧ y = cnt (ts.take k) 1 ∧ z = cnt (ts.take k) 2
theorem rel_next {ws ts : List Int} {k x y z : Nat} {t v : Int} (hk : k < ts.length) (hr : TallyRel ws ts k x y z) (ht : ts.getD k 0 = t) (hv : ws.getD k 0 = v) (h : 0 ≤ t ∧ t ≤ 2 ∧ (t = 0 → v = 0)) :
    TallyRel ws ts (k + 1) (x + if t = 0 then 1 else 0) (y + if t = 1 then 1 else 0) (z + if t = 2 then 1 else 0) := by
  obtain ⟨h1, h2, h3, h4⟩ := hr
  refine ⟨good_next h1 ht hv h, ?_, ?_, ?_⟩
  · rw [cnt_take 0 hk, ht, h2]
  · rw [cnt_take 1 hk, ht, h3]
  · rw [cnt_take 2 hk, ht, h4]

end Go.Proofs.Ytnkhgofpdgnemaa
