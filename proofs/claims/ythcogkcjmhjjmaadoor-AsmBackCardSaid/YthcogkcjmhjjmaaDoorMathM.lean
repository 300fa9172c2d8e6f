/- Plain functions: what a line tells, and the code of a text. -/
import Derived.Test.YthcogkcjmhjjmaaDoorMathL
namespace Go.Proofs.YthcogkcjmhjjmaaDoor

def opName : List Bs := [[104, 97, 108, 116], [115, 101, 116], [109, 111, 118, 101], [112, 108, 117, 115], [109, 97, 115, 107], [97, 100, 100], [115, 117, 98], [97, 110, 100], [120, 111, 114], [108, 101, 115, 115], [106, 117, 109, 112], [122, 101, 114, 111], [115, 111, 109, 101], [99, 97, 108, 108], [114, 101, 116], [115, 101, 108, 102], [108, 111, 97, 100], [115, 116, 111, 114, 101], [102, 101, 110, 99, 101], [99, 97, 115], [120, 99, 104, 103], [102, 101, 116, 99, 104], [98, 114, 111, 97, 100], [119, 97, 105, 116], [111, 119, 110], [100, 114, 111, 112], [109, 97, 114, 107]]
def opSign : List Bs := [[], [114, 110], [114, 114], [114, 114, 110], [114, 114, 110], [114, 114, 114], [114, 114, 114], [114, 114, 114], [114, 114, 114], [114, 114, 114], [116], [114, 116], [114, 116], [116], [], [114], [114, 114, 110], [114, 114, 110], [], [114, 114, 114], [114, 114], [114, 114], [], [114, 114], [114, 114], [114, 114], [110]]
def opOf (l : Bs) : Option Nat := (List.range 27).find? (fun k => decide (opName.getD k [] = l))
theorem opOf_none {l : Bs} (h : ∀ k, k < 27 → opName.getD k [] ≠ l) : opOf l = none := by
  simp only [opOf, List.find?_eq_none, List.mem_range, decide_eq_true_eq]
  exact h
theorem opOf_some {l : Bs} {k : Nat} (hk : k < 27) (h : ∀ j, j < k → opName.getD j [] ≠ l) (he : opName.getD k [] = l) : opOf l = some k := by
  rw [opOf, List.find?_range_eq_some]
  refine ⟨by simpa using he, by simpa using hk, fun j hj => by simpa using h j hj⟩
theorem opOf_lt {l : Bs} {k : Nat} (h : opOf l = some k) : k < 27 ∧ opName.getD k [] = l := by
  have h1 := List.mem_of_find?_eq_some h
  have h2 := List.find?_some h
  exact ⟨by simpa using h1, by simpa using h2⟩
/-- what signs of operands there are -/
def SignOk (sg : Bs) : Prop := sg.length ≤ 3 ∧ ∀ i, i < sg.length → (sg.getD i 0).toNat = 114 ∨ (sg.getD i 0).toNat = 110 ∨ (sg.getD i 0).toNat = 116
theorem signs_ok : ∀ k, k < 27 → SignOk (opSign.getD k []) := by
  have h : (List.range 27).all (fun k => decide ((opSign.getD k []).length ≤ 3) && (List.range (opSign.getD k []).length).all (fun i => decide (((opSign.getD k []).getD i 0).toNat = 114 ∨ ((opSign.getD k []).getD i 0).toNat = 110 ∨ ((opSign.getD k []).getD i 0).toNat = 116))) = true := by decide
  intro k hk
  rw [List.all_eq_true] at h
  have h1 := h k (List.mem_range.2 hk)
  rw [Bool.and_eq_true, decide_eq_true_eq, List.all_eq_true] at h1
  exact ⟨h1.1, fun i hi => by have := h1.2 i (List.mem_range.2 hi); rwa [decide_eq_true_eq] at this⟩
/-- how many instructions stand ahead of the label that a part names, or why not -/
def targE (f : Bs → Option (Int × Int)) (l : Bs) : Int × Int := if nameB l = false then (0, 3) else match f l with | none => (0, 11) | some p => (p.2, 0)
/-- an operand of that kind -/
def opndE (f : Bs → Option (Int × Int)) (c : Nat) (p : Bs) : Int × Int := if c = 114 then regE p else if c = 110 then numE p else targE f p
def errAt (f : Bs → Option (Int × Int)) (sg : Bs) (ps : List Bs) (i : Nat) : Int := (opndE f (sg.getD i 0).toNat (ps.getD i [])).2
def valAt (f : Bs → Option (Int × Int)) (sg : Bs) (ps : List Bs) (i : Nat) : Int := if i < sg.length then (opndE f (sg.getD i 0).toNat (ps.getD i [])).1 else 0
def firstErr (f : Bs → Option (Int × Int)) (sg : Bs) (ps : List Bs) : Option Nat := (List.range sg.length).find? (fun i => decide (errAt f sg ps i ≠ 0))
theorem firstErr_none {f : Bs → Option (Int × Int)} {sg : Bs} {ps : List Bs} (h : ∀ i, i < sg.length → errAt f sg ps i = 0) : firstErr f sg ps = none := by
  simp only [firstErr, List.find?_eq_none, List.mem_range, decide_eq_true_eq]
  exact fun i hi q => q (h i hi)
theorem firstErr_some {f : Bs → Option (Int × Int)} {sg : Bs} {ps : List Bs} {k : Nat} (hk : k < sg.length) (h : ∀ i, i < k → errAt f sg ps i = 0) (he : errAt f sg ps k ≠ 0) : firstErr f sg ps = some k := by
  rw [firstErr, List.find?_range_eq_some]
  refine ⟨by simpa using he, by simpa using hk, fun j hj => by simpa using h j hj⟩
abbrev Ins := Int × Int × Int × Int
/-- what a line that is no label tells, or why it is not right -/
def instrE (f : Bs → Option (Int × Int)) (l : Bs) : Ins × Int :=
  match opOf ((parts 32 l).getD 0 []) with
  | none => ((0, 0, 0, 0), 10)
  | some k =>
    if (parts 32 l).length - 1 ≠ (opSign.getD k []).length then ((0, 0, 0, 0), 12)
    else match firstErr f (opSign.getD k []) ((parts 32 l).drop 1) with
      | some i => ((0, 0, 0, 0), errAt f (opSign.getD k []) ((parts 32 l).drop 1) i)
      | none => (((k : Int), valAt f (opSign.getD k []) ((parts 32 l).drop 1) 0, valAt f (opSign.getD k []) ((parts 32 l).drop 1) 1, valAt f (opSign.getD k []) ((parts 32 l).drop 1) 2), 0)
theorem parts_pos (c : UInt8) (l : Bs) : 1 ≤ (parts c l).length := by
  have := parts_ne c l
  cases h : parts c l with
  | nil => exact absurd h this
  | cons _ _ => simp
theorem parts_short (c : UInt8) : ∀ (l p : Bs), p ∈ parts c l → p.length ≤ l.length
  | [], p, h => by simp [parts] at h; subst h; simp
  | b :: t, p, h => by
    unfold parts at h
    split at h
    · rcases List.mem_cons.1 h with rfl | h
      · simp
      · have := parts_short c t p h; simp; omega
    · split at h
      · rename_i q qs hq
        rcases List.mem_cons.1 h with rfl | h
        · have := parts_short c t q (by rw [hq]; simp); simp; omega
        · have := parts_short c t p (by rw [hq]; simp [h]); simp; omega
      · rename_i hq
        exact absurd hq (parts_ne c t)
theorem parts_len (c : UInt8) : ∀ l : Bs, (parts c l).length ≤ l.length + 1
  | [] => by simp [parts]
  | b :: t => by
    have ih := parts_len c t
    unfold parts
    split
    · simp; omega
    · split
      · rename_i q qs hq
        rw [hq] at ih
        simp at ih ⊢; omega
      · simp
end Go.Proofs.YthcogkcjmhjjmaaDoor
