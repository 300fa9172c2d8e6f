/- respiteref07: Apply, what each operation needs. -/
import Derived.Test.YtjddflnecfokaaaLoQ
import Derived.Test.YtjddflnecfokaaaLoL
import Derived.Test.YtjddflnecfokaaaFrR
namespace Go.Proofs.Ytjddflnecfokaaa
open Go.ChangeShapes Go.WideShapes Go.ChangeAt Go.RowKit
open Gen

theorem thQ_und7 {Q : Nat → Prop} {w : World} {fa la : Option Addr} {fn fc ln lc : Nat} {t : Thr} (h : ThQ Q w fa fn fc la ln lc t) : ThQ (fun b => Q b ∧ b < w.heap.size) w fa fn fc la ln lc t := ⟨h.fcap, vs_und h.fs, h.lcap, vs_und h.lf⟩
theorem thr_regs {w : World} {g : Nat} {t : Thr} {fa la : Option Addr} {fn fc ln lc : Nat} (h : VarN w g [.int .i64 t.pc, .int .i64 (t.r 0), .int .i64 (t.r 1), .int .i64 (t.r 2), .int .i64 (t.r 3), .int .i64 (t.r 4), .int .i64 (t.r 5), .int .i64 (t.r 6), .int .i64 (t.r 7), .slice fa fn fc, .int .i64 t.st, .int .i64 t.ft, .slice la ln lc]) : w.rangeAt g 1 [.int .i64 (t.r 0), .int .i64 (t.r 1), .int .i64 (t.r 2), .int .i64 (t.r 3), .int .i64 (t.r 4), .int .i64 (t.r 5), .int .i64 (t.r 6), .int .i64 (t.r 7)] := fun j v hj => by
  have h1 : j < 8 := by have := (List.getElem?_eq_some_iff.1 hj).1; simpa using this
  refine (h (1 + j) v ?_).1
  rw [← hj]
  rcases (show j = 0 ∨ j = 1 ∨ j = 2 ∨ j = 3 ∨ j = 4 ∨ j = 5 ∨ j = 6 ∨ j = 7 by omega) with rfl | rfl | rfl | rfl | rfl | rfl | rfl | rfl <;> rfl
theorem get_reg0 (r : Nat → Int) (j : Nat) (hj : j < 8) (x : List Value) : ((.int .i64 (r 0)) :: (.int .i64 (r 1)) :: (.int .i64 (r 2)) :: (.int .i64 (r 3)) :: (.int .i64 (r 4)) :: (.int .i64 (r 5)) :: (.int .i64 (r 6)) :: (.int .i64 (r 7)) :: x)[j]? = some (.int .i64 (r j)) := by
  rcases (show j = 0 ∨ j = 1 ∨ j = 2 ∨ j = 3 ∨ j = 4 ∨ j = 5 ∨ j = 6 ∨ j = 7 by omega) with rfl | rfl | rfl | rfl | rfl | rfl | rfl | rfl <;> rfl
theorem wpList_store_off {P : Program} {ops : Array Oper} {rest : List Oper} {o : Oper} {a : Act} {w : World} {Q : Exit → Act → World → Prop} (hg : o.guard = none) (ty : TypeId) (x y : Operand) (ho : o.op = .store ty x y) (g f : Nat) (cells : Array Value) (hx : a.eval x = .pointer (some ⟨g, f, none⟩)) (hy : a.eval y = .agg cells)
    (vs : List Value) (hv : VarN w g vs) (hl : f + cells.size ≤ vs.length) (hi : (P.info? ty).map (·.size) = some cells.size) (h1 : cells.all (·.oneCell') = true)
    (h : ∀ U, Hid (U = setN w g f cells.toList) → wpList P ops Q rest (a.put o.dst undef) U) : wpList P ops Q (o :: rest) a w :=
  wpList_store_mid hg ty x y ho g f cells hx hy (fun j hj => by
    have hv' : vs[f + j]? = some (vs[f + j]'(by omega)) := by simp [show f + j < vs.length by omega]
    obtain ⟨h1, h2⟩ := hv _ _ hv'
    exact ⟨by rw [h1]; rfl, h2⟩) hi h1 (h _ (Lib.hid (setN_cells _ _ _ _)))
end Go.Proofs.Ytjddflnecfokaaa
