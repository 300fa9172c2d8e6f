/- Plain facts for the document's own answers of layer 1. -/
import Derived.Test.YtnkhgofpdgnemaaMathB
namespace Go.Proofs.Ytnkhgofpdgnemaa

/-- one number of a row is another one -/
def withE (zs : List Int) (i x : Int) (k : Nat) : Int := if (k : Int) = i then x else zs.getD k 0
def withN (zs : List Int) (i x : Int) : Nat → List Int
  | 0 => []
  | k + 1 => withN zs i x k ++ [withE zs i x k]
def withZ (zs : List Int) (i x : Int) : List Int := withN zs i x zs.length
theorem withN_length (zs : List Int) (i x : Int) (k : Nat) : (withN zs i x k).length = k := by
  induction k with
  | zero => rfl
  | succ k ih => simp [withN, ih]
theorem withN_get (zs : List Int) (i x : Int) (k j : Nat) (hj : j < k) : (withN zs i x k).getD j 0 = withE zs i x j := by
  induction k with
  | zero => omega
  | succ k ih =>
    simp only [withN, List.getD_eq_getElem?_getD]
    by_cases e : j = k
    · subst e
      rw [List.getElem?_append_right (by rw [withN_length]; omega)]
      simp [withN_length]
    · rw [List.getElem?_append_left (by rw [withN_length]; omega)]
      have := ih (by omega)
      simpa only [List.getD_eq_getElem?_getD] using this
theorem withZ_set (zs : List Int) (i : Nat) (x : Int) : withZ zs i x = zs.set i x := by
  apply List.ext_getElem
  · simp [withZ, withN_length]
  · intro j h1 h2
    have hj : j < zs.length := by simpa using h2
    have e1 : (withZ zs i x)[j] = (withZ zs i x).getD j 0 := by simp [h1]
    have e2 : (zs.set i x)[j] = (zs.set i x).getD j 0 := by simp [hj]
    rw [e1, e2, withZ, withN_get _ _ _ _ _ hj]
    simp only [withE, List.getD_eq_getElem?_getD, List.getElem?_set]
    by_cases e : i = j
    · subst e; simp [hj]
    · rw [if_neg (by omega), if_neg e]


def sameB (xs ys : List Int) : Bool := decide (xs = ys)
theorem sameB_len {xs ys : List Int} (h : xs.length ≠ ys.length) : sameB xs ys = false := by
  simp only [sameB, decide_eq_false_iff_not]; intro e; rw [e] at h; exact h rfl
theorem sameB_at {xs ys : List Int} (k : Nat) (h : xs.getD k 0 ≠ ys.getD k 0) : sameB xs ys = false := by
  simp only [sameB, decide_eq_false_iff_not]; intro e; rw [e] at h; exact h rfl
theorem sameB_all {xs ys : List Int} (hl : xs.length = ys.length) (h : ∀ j, j < xs.length → xs.getD j 0 = ys.getD j 0) : sameB xs ys = true := by
  simp only [sameB, decide_eq_true_eq]
  apply List.ext_getElem hl
  intro j h1 h2
  have := h j h1
  simpa [h1, h2] using this
theorem sameB_refl (xs : List Int) : sameB xs xs = true := by simp [sameB]
def SameTo (xs ys : List Int) (k : Nat) : Prop := ∀ j, j < k → xs.getD j 0 = ys.getD j 0
theorem sameTo_succ {xs ys : List Int} {k : Nat} {x y : Int} (h : SameTo xs ys k) (hx : xs.getD k 0 = x) (hy : ys.getD k 0 = y) (e : x = y) : SameTo xs ys (k + 1) := by
  intro j hj
  by_cases c : j = k
  · subst c; rw [hx, hy, e]
  · exact h j (by omega)
end Go.Proofs.Ytnkhgofpdgnemaa
