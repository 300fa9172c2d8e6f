/- Package asm: told. -/
import Derived.Test.YthcogkcjmhjjmaaDoorMathX
import Derived.Deep.RegionHeld3
namespace Go.Proofs.YthcogkcjmhjjmaaDoor
open Go.ChangeShapes Go.WideShapes Go.ChangeAt Go.RowKit
open Gen

theorem kinds1_any (v : Int) (w : World) (h0 : -9223372036854775808 ≤ v) (h1 : v ≤ 9223372036854775807) (G : Glob w) : Calls Tryd.prog 46 #[.int .i64 v] w fun e w' => e = .returned (.string (str (114 :: Lib.itoa v))) ∧ Below w.heap.size w w' := by
  have hp := G.pow
  have hl := Lib.itoa_length_le v h0 h1
  have hl2 : ¬ 9223372036854775807 < 1 + (Lib.itoa v).length := by omega
  go_enter Tryd.func46, Tryd.ntmps46
  go_wp2_with (go_at_call 47; refine (Tryd.strconv_Itoa v h0 h1 _ hp).mono ?_; rintro e w' ⟨rfl, k, os, rfl⟩)
  go_ret
  exact ⟨congrArg (fun x => Ending.returned (Value.string x)) (str_cons _ _), Lib.below_grow _ _ (Nat.le_refl _) _ _⟩
theorem itoa_any (v : Int) (w : World) (h0 : -9223372036854775808 ≤ v) (h1 : v ≤ 9223372036854775807) (G : Glob w) : Calls Tryd.prog 47 #[.int .i64 v] w fun e w' => e = .returned (.string (str (Lib.itoa v))) ∧ Below w.heap.size w w' := by
  refine (Tryd.strconv_Itoa v h0 h1 w G.pow).mono ?_
  rintro e w' ⟨rfl, k, os, rfl⟩
  exact ⟨rfl, Lib.below_grow _ _ (Nat.le_refl _) _ _⟩
theorem field_tell (w : World) (x y : Value) : (Instr.field 77 (.agg #[x, y]) 1).run Tryd.prog w = .ok y w := by
  simp [go_sem, Instr.field, asAgg]
def tellF (ch : Nat) : Value := if ch = 114 then .func (.func 46) #[] #[] else if ch = 110 then .func (.func 47) #[] #[] else .func (.func 32) #[] #[]
theorem tellP_any (ch : Nat) (v : Int) (w : World) (h0 : -9223372036854775808 ≤ v) (h1 : v ≤ 9223372036854775807) (G : Glob w) :
    Calls Tryd.prog (if ch = 114 then 46 else if ch = 110 then 47 else 32) #[.int .i64 v] w fun e w' => e = .returned (.string (str (tellP ch v))) ∧ Below w.heap.size w w' := by
  unfold tellP
  split
  · exact kinds1_any v w h0 h1 G
  · split
    · exact itoa_any v w h0 h1 G
    · exact label_any v w h0 h1 G
theorem ops_name {w : World} (G : Glob w) (k : Nat) (hk : k < 27) : w.cell? ⟨0, k * 2, none⟩ = some (.string (str (opName.getD k []))) := by
  obtain ⟨t, fr, h⟩ := ops_heap G
  rw [cell_of_row w _ _ _ t fr h]
  have h27 : k = 0 ∨ k = 1 ∨ k = 2 ∨ k = 3 ∨ k = 4 ∨ k = 5 ∨ k = 6 ∨ k = 7 ∨ k = 8 ∨ k = 9 ∨ k = 10 ∨ k = 11 ∨ k = 12 ∨ k = 13 ∨ k = 14 ∨ k = 15 ∨ k = 16 ∨ k = 17 ∨ k = 18 ∨ k = 19 ∨ k = 20 ∨ k = 21 ∨ k = 22 ∨ k = 23 ∨ k = 24 ∨ k = 25 ∨ k = 26 := by omega
  rcases h27 with rfl | rfl | rfl | rfl | rfl | rfl | rfl | rfl | rfl | rfl | rfl | rfl | rfl | rfl | rfl | rfl | rfl | rfl | rfl | rfl | rfl | rfl | rfl | rfl | rfl | rfl | rfl <;> rfl
end Go.Proofs.YthcogkcjmhjjmaaDoor
