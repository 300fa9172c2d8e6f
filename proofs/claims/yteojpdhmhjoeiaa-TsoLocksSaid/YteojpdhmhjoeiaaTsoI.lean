/- Contracts of package tso: operations, and what each makes of a word. -/
import Derived.Test.YteojpdhmhjoeiaaTsoH
namespace Go.Proofs.Yteojpdhmhjoeiaa
open Go.ChangeShapes Go.WideShapes Go.ChangeAt Go.RowKit

theorem store_func (a : Addr) (fn : Fn) (xs ys : Array Value) (m : Mode) (P : Program) (w : World) : (store a (.func fn xs ys) m).run P w = stored P w a (.func fn xs ys) m := run_store P w a _ m rfl
attribute [local go_sem] store_func
theorem load_ops (w : World) (b : Nat) (x y z : Value) (k0 : w.cell? ⟨b, 0, none⟩ = some x) (k1 : w.cell? ⟨b, 1, none⟩ = some y) (k2 : w.cell? ⟨b, 2, none⟩ = some z) : (loadVar 60 ⟨b, 0, none⟩).run Try.prog w = .ok (.agg #[x, y, z]) w := by
  simp [go_sem, k0, k1, k2]
set_option maxHeartbeats 2000000 in
theorem ops_any (w : World) : Calls Try.prog 21 #[] w fun e w' => e = .returned (.agg #[.func (.func 47) #[] #[], .func (.func 48) #[] #[], .func (.func 49) #[] #[]]) ∧ Below w.heap.size w w' := by
  go_enter Try.func21, Try.ntmps21
  go_wp2
  refine bp_cell ⟨w.heap.size, 0, none⟩ rfl rfl rfl (load_ops _ _ _ _ _ (by simp; rfl) (by simp; rfl) (by simp; rfl)) ?_
  exact ⟨rfl, by go_grown⟩

/-- what a locked operation makes of a word -/
def lockV (kind word a b : Int) : Int := if kind = 0 then (if word = a then b else word) else if kind = 1 then a else IntKind.i64.wrap (word + a)
def FunPost (v : Int) (w : World) (e : Ending) (w' : World) : Prop := e = .returned (.int .i64 v) ∧ Below w.heap.size w w'
theorem funPost_mk {v z : Int} {w w' : World} (h : v = z) (hb : Below w.heap.size w w') : FunPost v w (.returned (.int .i64 z)) w' := by subst h; exact ⟨rfl, hb⟩
theorem opCas_any (word a b : Int) (w : World) : Calls Try.prog 47 #[.int .i64 word, .int .i64 a, .int .i64 b] w (FunPost (lockV 0 word a b) w) := by
  by_cases h : word = a
  · have HV := Lib.hid (show lockV 0 word a b = b by rw [lockV, if_pos rfl, if_pos h])
    have q : (word == a) = true := by simpa using h
    clear h
    go_enter Try.func47, Try.ntmps47
    go_wp2
    go_ret
    exact funPost_mk HV.out (Below.refl _ _)
  · have HV := Lib.hid (show lockV 0 word a b = word by rw [lockV, if_pos rfl, if_neg h])
    have q : (word == a) = false := by simpa using h
    clear h
    go_enter Try.func47, Try.ntmps47
    go_wp2
    go_ret
    exact funPost_mk HV.out (Below.refl _ _)
theorem opXchg_any (word a b : Int) (w : World) : Calls Try.prog 48 #[.int .i64 word, .int .i64 a, .int .i64 b] w (FunPost (lockV 1 word a b) w) := by
  have HV := Lib.hid (show lockV 1 word a b = a by rw [lockV, if_neg (by decide), if_pos rfl])
  go_enter Try.func48, Try.ntmps48
  go_wp2
  go_ret
  exact funPost_mk HV.out (Below.refl _ _)
theorem opAdd_any (word a b : Int) (w : World) : Calls Try.prog 49 #[.int .i64 word, .int .i64 a, .int .i64 b] w (FunPost (lockV 2 word a b) w) := by
  have HV := Lib.hid (show lockV 2 word a b = IntKind.i64.wrap (word + a) by rw [lockV, if_neg (by decide), if_neg (by decide)])
  go_enter Try.func49, Try.ntmps49
  go_wp2
  go_ret
  exact funPost_mk (HV.out.trans (IntWalk.i64_left _)) (Below.refl _ _)
end Go.Proofs.Yteojpdhmhjoeiaa
