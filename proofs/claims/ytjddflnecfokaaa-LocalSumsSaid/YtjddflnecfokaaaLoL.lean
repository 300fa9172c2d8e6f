/- Package local: operations; any operation, by its number. -/
import Derived.Test.YtjddflnecfokaaaLoG
import Derived.Test.YtjddflnecfokaaaLoH
import Derived.Test.YtjddflnecfokaaaLoI
import Derived.Test.YtjddflnecfokaaaLoJ
import Derived.Test.YtjddflnecfokaaaLoK
namespace Go.Proofs.Ytjddflnecfokaaa
open Go.ChangeShapes Go.WideShapes Go.ChangeAt Go.RowKit
open Gen

def opsL : List Value := [.string ⟨#[]⟩, .nilFunc, .string ⟨#[114, 110]⟩, .func (.func 32) #[] #[], .string ⟨#[114, 114]⟩, .func (.func 33) #[] #[], .string ⟨#[114, 114, 110]⟩, .func (.func 34) #[] #[], .string ⟨#[114, 114, 110]⟩, .func (.func 35) #[] #[], .string ⟨#[114, 114, 114]⟩, .func (.func 36) #[] #[], .string ⟨#[114, 114, 114]⟩, .func (.func 37) #[] #[], .string ⟨#[114, 114, 114]⟩, .func (.func 38) #[] #[], .string ⟨#[114, 114, 114]⟩, .func (.func 39) #[] #[], .string ⟨#[114, 114, 114]⟩, .func (.func 40) #[] #[], .string ⟨#[116]⟩, .func (.func 41) #[] #[], .string ⟨#[114, 116]⟩, .func (.func 42) #[] #[], .string ⟨#[114, 116]⟩, .func (.func 43) #[] #[], .string ⟨#[116]⟩, .func (.func 44) #[] #[], .string ⟨#[]⟩, .func (.func 45) #[] #[], .string ⟨#[114]⟩, .func (.func 46) #[] #[]]
def fkL : List Nat := [0, 32, 33, 34, 35, 36, 37, 38, 39, 40, 41, 42, 43, 44, 45, 46]
/-- the number of the function of that operation -/
def fk (k : Nat) : Nat := fkL.getD k 0
set_option maxRecDepth 100000 in
theorem ops_one : opsL.toArray.all (·.oneCell') = true := by simp [opsL, Value.oneCell']
theorem fk_body (k : Nat) (h1 : 1 ≤ k) (h2 : k ≤ 15) : (Try.prog.funcs[fk k]?).map (fun fn => (fn.name == "runtime.NumGoroutine", fn.body.isNone)) = some (false, false) := by
  rcases (show k = 1 ∨ k = 2 ∨ k = 3 ∨ k = 4 ∨ k = 5 ∨ k = 6 ∨ k = 7 ∨ k = 8 ∨ k = 9 ∨ k = 10 ∨ k = 11 ∨ k = 12 ∨ k = 13 ∨ k = 14 ∨ k = 15 by omega) with rfl | rfl | rfl | rfl | rfl | rfl | rfl | rfl | rfl | rfl | rfl | rfl | rfl | rfl | rfl <;> kernel_rfl
theorem sgs_len (k : Nat) : (loSg k).length ≤ 3 := by
  by_cases h : k < 16
  · rcases (show k = 0 ∨ k = 1 ∨ k = 2 ∨ k = 3 ∨ k = 4 ∨ k = 5 ∨ k = 6 ∨ k = 7 ∨ k = 8 ∨ k = 9 ∨ k = 10 ∨ k = 11 ∨ k = 12 ∨ k = 13 ∨ k = 14 ∨ k = 15 by omega) with rfl | rfl | rfl | rfl | rfl | rfl | rfl | rfl | rfl | rfl | rfl | rfl | rfl | rfl | rfl | rfl <;> decide
  · have : loSg k = [] := by
      unfold loSg
      rw [List.getD_eq_getElem?_getD, List.getElem?_eq_none (by simp; omega)]; rfl
    rw [this]; decide
set_option maxRecDepth 100000 in
theorem run_index_ops (k : Nat) (h1 : 1 ≤ k) (h2 : k ≤ 15) (w : World) : (Instr.index 51 (.agg opsL.toArray) (.int .i64 (k : Nat))).run Try.prog w = .ok (.agg #[.string ⟨(loSg k).toArray⟩, .func (.func (fk k)) #[] #[]]) w := by
  rcases (show k = 1 ∨ k = 2 ∨ k = 3 ∨ k = 4 ∨ k = 5 ∨ k = 6 ∨ k = 7 ∨ k = 8 ∨ k = 9 ∨ k = 10 ∨ k = 11 ∨ k = 12 ∨ k = 13 ∨ k = 14 ∨ k = 15 by omega) with rfl | rfl | rfl | rfl | rfl | rfl | rfl | rfl | rfl | rfl | rfl | rfl | rfl | rfl | rfl <;> simp [go_sem, Instr.index, part, opsL, loSg, fk, fkL]
theorem wp_index {P : Program} {o : Oper} {a : Act} {w : World} {K : Act → World → Prop} {Q : Exit → Act → World → Prop} (ty : TypeId) (x y : Operand) (ho : o.op = .index ty x y) (u v r : Value) (hx : a.eval x = u) (hy : a.eval y = v)
    (hr : (Instr.index ty u v).run P w = .ok r w) (h : K (a.put o.dst r) w) : Oper.wp P o a w K Q := by
  unfold Oper.wp
  simp [execOp, ho, hx, hy, hr, Result.andThen]
  exact h
set_option maxRecDepth 100000 in
set_option maxHeartbeats 4000000 in
theorem operations_any (w : World) : Calls Try.prog 21 #[] w (fun e w' => e = .returned (.agg opsL.toArray) ∧ Below w.heap.size w w') := by
  obtain ⟨W, hW⟩ : ∃ W, W = w.alloc (Obj.cells #[.string ⟨#[]⟩, .nilFunc, .string ⟨#[]⟩, .nilFunc, .string ⟨#[]⟩, .nilFunc, .string ⟨#[]⟩, .nilFunc, .string ⟨#[]⟩, .nilFunc, .string ⟨#[]⟩, .nilFunc, .string ⟨#[]⟩, .nilFunc, .string ⟨#[]⟩, .nilFunc, .string ⟨#[]⟩, .nilFunc, .string ⟨#[]⟩, .nilFunc, .string ⟨#[]⟩, .nilFunc, .string ⟨#[]⟩, .nilFunc, .string ⟨#[]⟩, .nilFunc, .string ⟨#[]⟩, .nilFunc, .string ⟨#[]⟩, .nilFunc, .string ⟨#[]⟩, .nilFunc] 51) := ⟨_, rfl⟩
  have X : VarN W w.heap.size [.string ⟨#[]⟩, .nilFunc, .string ⟨#[]⟩, .nilFunc, .string ⟨#[]⟩, .nilFunc, .string ⟨#[]⟩, .nilFunc, .string ⟨#[]⟩, .nilFunc, .string ⟨#[]⟩, .nilFunc, .string ⟨#[]⟩, .nilFunc, .string ⟨#[]⟩, .nilFunc, .string ⟨#[]⟩, .nilFunc, .string ⟨#[]⟩, .nilFunc, .string ⟨#[]⟩, .nilFunc, .string ⟨#[]⟩, .nilFunc, .string ⟨#[]⟩, .nilFunc, .string ⟨#[]⟩, .nilFunc, .string ⟨#[]⟩, .nilFunc, .string ⟨#[]⟩, .nilFunc] := by rw [hW]; exact varN_new [.string ⟨#[]⟩, .nilFunc, .string ⟨#[]⟩, .nilFunc, .string ⟨#[]⟩, .nilFunc, .string ⟨#[]⟩, .nilFunc, .string ⟨#[]⟩, .nilFunc, .string ⟨#[]⟩, .nilFunc, .string ⟨#[]⟩, .nilFunc, .string ⟨#[]⟩, .nilFunc, .string ⟨#[]⟩, .nilFunc, .string ⟨#[]⟩, .nilFunc, .string ⟨#[]⟩, .nilFunc, .string ⟨#[]⟩, .nilFunc, .string ⟨#[]⟩, .nilFunc, .string ⟨#[]⟩, .nilFunc, .string ⟨#[]⟩, .nilFunc, .string ⟨#[]⟩, .nilFunc] _ rfl
  have hB : Below w.heap.size w W := by rw [hW]; go_grown
  have HX := Lib.hid X
  have HB := Lib.hid hB
  have HW := Lib.hid hW
  clear hW X hB
  go_enter Try.func21, Try.ntmps21
  go_upto_region 1 with fail
  rw [← HW.out]
  go_wp2_with (refine wpList_store_var rfl 51 _ _ rfl w.heap.size opsL.toArray rfl rfl _ HX.out rfl (by kernel_rfl) ops_one ?_; intro U HU)
  refine bp_cell (X := .agg opsL.toArray) ⟨w.heap.size, 0, none⟩ rfl rfl rfl ?_ ?_
  · have h := varN_all (xs := opsL) HX.out rfl
    rw [show U = setN W w.heap.size 0 opsL from HU.out]
    exact run_loadVar_mid _ _ 0 _ opsL _ (varN_range h) Try.underlying51 rfl (by kernel_rfl)
  · exact ⟨rfl, below_set HU (Nat.le_refl _) HB.out⟩

/-- a thread whose lists lie in blocks of Q, and an error -/
def ThPostQ (Q : Nat → Prop) (t : Thr) (x : Int) (w : World) (e : Ending) (w' : World) : Prop :=
  ∃ fa fn fc la ln lc, e = .returned (.tuple #[.agg #[.int .i64 t.pc, .int .i64 (t.r 0), .int .i64 (t.r 1), .int .i64 (t.r 2), .int .i64 (t.r 3), .int .i64 (t.r 4), .int .i64 (t.r 5), .int .i64 (t.r 6), .int .i64 (t.r 7), .slice fa fn fc, .int .i64 t.st, .int .i64 t.ft, .slice la ln lc], .int .i64 x]) ∧ ThQ Q w' fa fn fc la ln lc t ∧ Below w.heap.size w w'
theorem thPostQ_is {Q : Nat → Prop} {t z : Thr} {x : Int} {fa la : Option Addr} {fn fc ln lc : Nat} {w : World} {e : Ending} {w' : World} (hf : z.fs = t.fs) (hl : z.lf = t.lf) (hx : x = 0) (F : ThQ Q w fa fn fc la ln lc t) (h : ThIs z fa la fn fc ln lc 0 w e w') : ThPostQ Q z x w e w' := by
  subst hx
  obtain ⟨e1, hb⟩ := h
  have F' := thQ_keep (kept_B hb) F
  exact ⟨fa, fn, fc, la, ln, lc, e1, ⟨F'.fcap, by rw [hf]; exact F'.fs, F'.lcap, by rw [hl]; exact F'.lf⟩, hb⟩
theorem thPostQ_new {Q : Nat → Prop} {z : Thr} {x : Int} {w : World} {e : Ending} {w' : World} (hQ : ∀ b, w.heap.size ≤ b → Q b) (h : ThPostF z x w e w') : ThPostQ Q z x w e w' := by
  obtain ⟨fa, fc, la, lc, e1, F, hb⟩ := h
  exact ⟨fa, _, fc, la, _, lc, e1, thQ_mono hQ F, hb⟩
theorem brT_fs (t : Thr) (b : Bool) (pc : Int) : (brT t b pc).fs = t.fs ∧ (brT t b pc).lf = t.lf := by unfold brT; split <;> exact ⟨rfl, rfl⟩
theorem does_any (Q : Nat → Prop) (t : Thr) (self : Int) (i : In4) (k : Nat) (fa la : Option Addr) (fn fc ln lc : Nat) (w : World) (hk : i.1 = k) (h1 : 1 ≤ k) (h2 : k ≤ 15) (hf : fitsI i = true) (hr : rightT t = true)
    (F : ThQ Q w fa fn fc la ln lc t) (hQ : ∀ b, w.heap.size ≤ b → Q b) : Calls Try.prog (fk k) #[.agg #[.int .i64 t.pc, .int .i64 (t.r 0), .int .i64 (t.r 1), .int .i64 (t.r 2), .int .i64 (t.r 3), .int .i64 (t.r 4), .int .i64 (t.r 5), .int .i64 (t.r 6), .int .i64 (t.r 7), .slice fa fn fc, .int .i64 t.st, .int .i64 t.ft, .slice la ln lc, .int .i64 self, .int .i64 i.1, .int .i64 i.2.1, .int .i64 i.2.2.1, .int .i64 i.2.2.2]] w (ThPostQ Q (doT t self i) (doE t i) w) := by
  obtain ⟨f1, f2, f3, f4, f5⟩ := fits_reg hf (by omega) (by omega)
  have hp := rightT_pc hr
  obtain ⟨o, A, B, C⟩ := i
  simp only at hk f1 f2 f3 f4 f5
  rcases (show k = 1 ∨ k = 2 ∨ k = 3 ∨ k = 4 ∨ k = 5 ∨ k = 6 ∨ k = 7 ∨ k = 8 ∨ k = 9 ∨ k = 10 ∨ k = 11 ∨ k = 12 ∨ k = 13 ∨ k = 14 ∨ k = 15 by omega) with rfl | rfl | rfl | rfl | rfl | rfl | rfl | rfl | rfl | rfl | rfl | rfl | rfl | rfl | rfl <;> obtain rfl := hk
  · exact (lo_set_any t self (1, A, B, C) fa la fn fc ln lc w (f1 (by decide)) hp).mono fun e w' h => thPostQ_is (t := t) rfl rfl rfl F h
  · exact (lo_move_any t self (2, A, B, C) fa la fn fc ln lc w (f1 (by decide)) (f3 (by decide)) hp).mono fun e w' h => thPostQ_is (t := t) rfl rfl rfl F h
  · exact (lo_plus_any t self (3, A, B, C) fa la fn fc ln lc w (f1 (by decide)) (f3 (by decide)) hp).mono fun e w' h => thPostQ_is (t := t) rfl rfl rfl F h
  · exact (lo_mask_any t self (4, A, B, C) fa la fn fc ln lc w (f1 (by decide)) (f3 (by decide)) hp).mono fun e w' h => thPostQ_is (t := t) rfl rfl rfl F h
  · exact (lo_add_any t self (5, A, B, C) fa la fn fc ln lc w (f1 (by decide)) (f3 (by decide)) (f5 (by decide)) hp).mono fun e w' h => thPostQ_is (t := t) rfl rfl rfl F h
  · exact (lo_sub_any t self (6, A, B, C) fa la fn fc ln lc w (f1 (by decide)) (f3 (by decide)) (f5 (by decide)) hp).mono fun e w' h => thPostQ_is (t := t) rfl rfl rfl F h
  · exact (lo_and_any t self (7, A, B, C) fa la fn fc ln lc w (f1 (by decide)) (f3 (by decide)) (f5 (by decide)) hp).mono fun e w' h => thPostQ_is (t := t) rfl rfl rfl F h
  · exact (lo_xor_any t self (8, A, B, C) fa la fn fc ln lc w (f1 (by decide)) (f3 (by decide)) (f5 (by decide)) hp).mono fun e w' h => thPostQ_is (t := t) rfl rfl rfl F h
  · exact (lo_less_any t self (9, A, B, C) fa la fn fc ln lc w (f1 (by decide)) (f3 (by decide)) (f5 (by decide)) hp).mono fun e w' h => thPostQ_is (t := t) rfl rfl rfl F h
  · exact (lo_jump_any t self (10, A, B, C) fa la fn fc ln lc w  hp).mono fun e w' h => thPostQ_is (t := t) rfl rfl rfl F h
  · exact (lo_zero_any t self (11, A, B, C) fa la fn fc ln lc w (f1 (by decide)) hp).mono fun e w' h => thPostQ_is (t := t) (brT_fs _ _ _).1 (brT_fs _ _ _).2 rfl F h
  · exact (lo_some_any t self (12, A, B, C) fa la fn fc ln lc w (f1 (by decide)) hp).mono fun e w' h => thPostQ_is (t := t) (brT_fs _ _ _).1 (brT_fs _ _ _).2 rfl F h
  · exact (lo_call_any t self _ fa la fn fc ln lc w F.f).mono fun e w' h => thPostQ_new hQ h
  · exact (lo_ret_any t self _ fa la fn fc ln lc w F.f).mono fun e w' h => thPostQ_new hQ h
  · exact (lo_tell_any t self (15, A, B, C) fa la fn fc ln lc w (f1 (by decide)) hp).mono fun e w' h => thPostQ_is (t := t) rfl rfl rfl F h
end Go.Proofs.Ytjddflnecfokaaa
