/- Laws for one operation of a region that draws its order: a struct read or written whole, a call; of a straight one, too. Nothing of the program is named. -/
import Derived.Test.YtnkhgofpdgnemaaReg
import Derived.Test.YtnkhgofpdgnemaaGen
import Derived.Test.YtnkhgofpdgnemaaWd
import Derived.Deep.MidRow
namespace Go.Proofs.Ytnkhgofpdgnemaa
open Go.ChangeShapes Go.WideShapes Go.ChangeAt Go.RowKit
open Gen

theorem varN_range {w : World} {g : Nat} {vs : List Value} (h : VarN w g vs) : w.rangeAt g 0 vs := fun j v hj => by rw [Nat.zero_add]; exact (h j v hj).1
theorem varN_there {w : World} {g : Nat} {vs : List Value} (h : VarN w g vs) (n : Nat) (hn : n = vs.length) : w.there g 0 n := fun j hj => by
  rw [Nat.zero_add]
  have hv : vs[j]? = some (vs[j]'(by omega)) := by simp [show j < vs.length by omega]
  obtain ⟨h1, h2⟩ := h j _ hv
  exact ⟨by rw [h1]; rfl, h2⟩
section
variable {P : Program} {ops : Array Oper} {o : Oper} {a : Act} {w : World} {K : Act → World → Prop} {Q : Exit → Act → World → Prop} {E : Prop}
theorem step_of_wp (hg : o.guard = none) (h : Oper.wp P o a w K Q) : if Region.wanted o (yielded ops a.tmps) = true then Oper.wp P o a w K Q else E := by
  rw [if_pos (by simp [Region.wanted, hg])]; exact h
theorem step_pos {c : Prop} [Decidable c] {X Y : Prop} (hc : c) (h : X) : if c then X else Y := by rw [if_pos hc]; exact h
theorem step_load_mid (hg : o.guard = none) (ty : TypeId) (x : Operand) (ho : o.op = .load ty x)
    (b f : Nat) (hx : a.eval x = .pointer (some ⟨b, f, none⟩)) (cs : List Value) (d : TypeDesc) (hc : w.rangeAt b f cs)
    (hu : P.underlying ty = some d) (hd : d.isRow = true) (hi : (P.info? ty).map (·.size) = some cs.length)
    (h : K (a.put o.dst (.agg cs.toArray)) w) : if Region.wanted o (yielded ops a.tmps) = true then Oper.wp P o a w K Q else E :=
  step_of_wp hg (wp_load_mid ty x ho b f hx cs d hc hu hd hi h)
theorem step_store_mid (hg : o.guard = none) (ty : TypeId) (x y : Operand) (ho : o.op = .store ty x y)
    (b f : Nat) (cells : Array Value) (hx : a.eval x = .pointer (some ⟨b, f, none⟩)) (hy : a.eval y = .agg cells)
    (ht : w.there b f cells.size) (hi : (P.info? ty).map (·.size) = some cells.size) (h1 : cells.all (·.oneCell') = true)
    (h : K (a.put o.dst undef) (w.setCells b f cells.toList)) : if Region.wanted o (yielded ops a.tmps) = true then Oper.wp P o a w K Q else E :=
  step_of_wp hg (wp_store_mid ty x y ho b f cells hx hy ht hi h1 h)
/-- a variable of several cells, written: the world behind it under a name -/
theorem wp_store_var (ty : TypeId) (x y : Operand) (ho : o.op = .store ty x y) (g : Nat) (cells : Array Value) (hx : a.eval x = .pointer (some ⟨g, 0, none⟩)) (hy : a.eval y = .agg cells)
    (vs : List Value) (hv : VarN w g vs) (hl : cells.size = vs.length) (hi : (P.info? ty).map (·.size) = some cells.size) (h1 : cells.all (·.oneCell') = true)
    (h : ∀ U, Hid (U = setN w g 0 cells.toList) → K (a.put o.dst undef) U) : Oper.wp P o a w K Q :=
  wp_store_mid ty x y ho g 0 cells hx hy (varN_there hv _ hl) hi h1 (h _ (Lib.hid (setN_cells _ _ _ _)))
theorem wpList_store_var {rest : List Oper} (hg : o.guard = none) (ty : TypeId) (x y : Operand) (ho : o.op = .store ty x y) (g : Nat) (cells : Array Value) (hx : a.eval x = .pointer (some ⟨g, 0, none⟩)) (hy : a.eval y = .agg cells)
    (vs : List Value) (hv : VarN w g vs) (hl : cells.size = vs.length) (hi : (P.info? ty).map (·.size) = some cells.size) (h1 : cells.all (·.oneCell') = true)
    (h : ∀ U, Hid (U = setN w g 0 cells.toList) → wpList P ops Q rest (a.put o.dst undef) U) : wpList P ops Q (o :: rest) a w :=
  wpList_plain hg fun _ hK => wp_store_var ty x y ho g cells hx hy vs hv hl hi h1 (fun U hU => hK _ _ (h U hU))
theorem step_store_var (hg : o.guard = none) (ty : TypeId) (x y : Operand) (ho : o.op = .store ty x y) (g : Nat) (cells : Array Value) (hx : a.eval x = .pointer (some ⟨g, 0, none⟩)) (hy : a.eval y = .agg cells)
    (vs : List Value) (hv : VarN w g vs) (hl : cells.size = vs.length) (hi : (P.info? ty).map (·.size) = some cells.size) (h1 : cells.all (·.oneCell') = true)
    (h : ∀ U, Hid (U = setN w g 0 cells.toList) → K (a.put o.dst undef) U) : if Region.wanted o (yielded ops a.tmps) = true then Oper.wp P o a w K Q else E :=
  step_of_wp hg (wp_store_var ty x y ho g cells hx hy vs hv hl hi h1 h)
/-- a call of a function that is known, whatever its number is -/
theorem wp_calls (x : Operand) (args : Array Operand) (aT : Array TypeId) (ho : o.op = Op.call { callee := .value x, args := args, argTypes := aT })
    (f : FuncId) (hx : a.eval x = .func (.func f) #[] #[]) (vs : List Value) (hv : args.toList.map a.eval = vs) (hf : (P.funcs[f]?).map (fun fn => (fn.name == "runtime.NumGoroutine", fn.body.isNone)) = some (false, false))
    (h : Calls P f vs.toArray w (fun e w' => ∃ v, e = .returned v ∧ K (a.put o.dst v) w')) : Oper.wp P o a w K Q := by
  have e : (execOp a.eval o).run P w = .ok (.enter f vs.toArray) w := by
    cases hq : P.funcs[f]? with
    | none => rw [hq] at hf; cases hf
    | some fn =>
      rw [hq] at hf
      simp only [Option.map_some, Option.some.injEq, Prod.mk.injEq] at hf
      have h1 : ¬ fn.name = "runtime.NumGoroutine" := by simpa using hf.1
      have h2 : ¬ fn.body = none := by have := hf.2; cases hx : fn.body <;> simp_all
      have hv' : args.map a.eval = vs.toArray := Array.toList_inj.1 (by rw [Array.toList_map, hv])
      unfold execOp
      simp [ho, resolve, Deferred.ofValue, hx, invoke, callFunc, hq, h1, h2, hv']
  unfold Oper.wp
  rw [e, Oper.upon_enter]
  exact h.mono (by rintro e w' ⟨v, rfl, hK⟩; exact hK)
theorem step_calls (hg : o.guard = none) (x : Operand) (args : Array Operand) (aT : Array TypeId) (ho : o.op = Op.call { callee := .value x, args := args, argTypes := aT })
    (f : FuncId) (hx : a.eval x = .func (.func f) #[] #[]) (vs : List Value) (hv : args.toList.map a.eval = vs) (hf : (P.funcs[f]?).map (fun fn => (fn.name == "runtime.NumGoroutine", fn.body.isNone)) = some (false, false))
    (h : Calls P f vs.toArray w (fun e w' => ∃ v, e = .returned v ∧ K (a.put o.dst v) w')) : if Region.wanted o (yielded ops a.tmps) = true then Oper.wp P o a w K Q else E :=
  step_of_wp hg (wp_calls x args aT ho f hx vs hv hf h)
end
end Go.Proofs.Ytnkhgofpdgnemaa
