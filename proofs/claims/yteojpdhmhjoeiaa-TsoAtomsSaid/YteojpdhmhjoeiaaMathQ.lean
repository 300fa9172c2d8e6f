/- Plain facts on locked operations: what one leaves, and what the next one tells. -/
import Derived.Test.YteojpdhmhjoeiaaRefZ
namespace Go.Proofs.Yteojpdhmhjoeiaa
open Go.RowKit

theorem lock_zero {ws ts : List Int} {D th k x : Int} {bs : List (List (Int × Int))} (h : lockTE ws ts D bs th k x = 0) : hasB ws ts D bs th = true ∧ kindB k = true ∧ bufOf bs th = [] ∧ usableZ ws ts x = 0 := by
  unfold lockTE at h
  split at h
  · rename_i h1
    split at h
    · exact ⟨h1.1, h1.2, by assumption, h⟩
    · simp at h
  · simp at h
theorem lock_mk {ws ts : List Int} {D th k x : Int} {bs : List (List (Int × Int))} (h1 : hasB ws ts D bs th = true) (h2 : kindB k = true) (h3 : bufOf bs th = []) (h4 : usableZ ws ts x = 0) : lockTE ws ts D bs th k x = 0 := by
  rw [lockTE, if_pos ⟨h1, h2⟩, if_pos h3, h4]
/-- behind a store to the place -/
theorem lock_next {ws ts : List Int} {D th k x : Int} {bs : List (List (Int × Int))} (h : lockTE ws ts D bs th k x = 0) (v k2 : Int) (hk : kindB k2 = true) : lockTE (ws.set x.toNat v) ts D bs th k2 x = 0 ∧ loadZ (ws.set x.toNat v) ts x = v := by
  obtain ⟨h1, _, h3, h4⟩ := lock_zero h
  have hm := (hasB_parts h1).1
  refine ⟨lock_mk ?_ hk h3 (by rw [usable_set h4]; exact h4), load_same h4⟩
  rw [has_th h1 (may_of_set (v := v) hm h4) rfl]; exact h1
theorem lock_same {ws ts : List Int} {D th k x : Int} {bs : List (List (Int × Int))} (h : lockTE ws ts D bs th k x = 0) (k2 : Int) (hk : kindB k2 = true) : lockTE ws ts D bs th k2 x = 0 := by
  obtain ⟨h1, _, h3, h4⟩ := lock_zero h
  exact lock_mk h1 hk h3 h4
theorem set_load {ws ts : List Int} {x : Int} (h : usableZ ws ts x = 0) : ws.set x.toNat (loadZ ws ts x) = ws := by
  obtain ⟨_, h0, h1, _⟩ := usable_zero h
  have hlt : x.toNat < ws.length := by omega
  rw [loadZ, if_pos h]
  apply List.ext_getElem
  · simp
  · intro i h2 h3
    rw [List.getElem_set]
    split
    · rename_i e; subst e; simp [hlt]
    · rfl
theorem wrap_back (w a : Int) (hw : -9223372036854775808 ≤ w ∧ w ≤ 9223372036854775807) : IntKind.i64.wrap (IntKind.i64.wrap (w + a) + IntKind.i64.wrap (-a)) = w := by
  rw [IntWalk.i64_left, IntWalk.i64_left, IntWalk.i64_left]
  unfold wrap64
  omega
theorem lock_all {ws ts : List Int} {D th x : Int} {bs : List (List (Int × Int))} (h : lockTE ws ts D bs th 2 x = 0) (a b : Int) (hr : -9223372036854775808 ≤ loadZ ws ts x ∧ loadZ ws ts x ≤ 9223372036854775807) :
    (lockTE (lockTW ws ts 2 x a 0) ts D bs th 2 x = 0 ∧ loadZ (lockTW ws ts 2 x a 0) ts x = IntKind.i64.wrap (loadZ ws ts x + a) ∧ lockTW (lockTW ws ts 2 x a 0) ts 2 x (IntKind.i64.wrap (-a)) 0 = ws) ∧
    (lockTE ws ts D bs th 1 x = 0 ∧ lockTE (lockTW ws ts 1 x b 0) ts D bs th 1 x = 0 ∧ loadZ (lockTW ws ts 1 x b 0) ts x = b ∧ lockTW (lockTW ws ts 1 x b 0) ts 1 x (loadZ ws ts x) 0 = ws) ∧
    (lockTE ws ts D bs th 0 x = 0 ∧ lockTW ws ts 0 x a b = if loadZ ws ts x = a then lockTW ws ts 1 x b 0 else ws) := by
  have hu := (lock_zero h).2.2.2
  refine ⟨⟨?_, ?_, ?_⟩, ⟨lock_same h 1 (by decide), ?_, ?_, ?_⟩, lock_same h 0 (by decide), ?_⟩
  · exact (lock_next h _ 2 (by decide)).1
  · rw [lockTW, (lock_next h _ 2 (by decide)).2]; rfl
  · have e := (lock_next h (lockV 2 (loadZ ws ts x) a 0) 2 (by decide)).2
    rw [lockTW, lockTW, e, List.set_set]
    have : lockV 2 (lockV 2 (loadZ ws ts x) a 0) (IntKind.i64.wrap (-a)) 0 = loadZ ws ts x := wrap_back _ _ hr
    rw [this, set_load hu]
  · exact (lock_next h _ 1 (by decide)).1
  · rw [lockTW, (lock_next h _ 1 (by decide)).2]; rfl
  · rw [lockTW, lockTW, List.set_set]
    exact set_load hu
  · rw [lockTW, lockTW]
    have : lockV 0 (loadZ ws ts x) a b = if loadZ ws ts x = a then b else loadZ ws ts x := rfl
    rw [this]
    split
    · rfl
    · exact set_load hu
end Go.Proofs.Yteojpdhmhjoeiaa
