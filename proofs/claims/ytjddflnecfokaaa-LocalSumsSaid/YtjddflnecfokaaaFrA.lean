/- Package frame: frames and threads, in plain mathematics and as they lie in memory; slices.Clone at both kinds. -/
import Derived.Test.YtjddflnecfokaaaGen
import Derived.Test.YtjddflnecfokaaaWd
import Derived.WalkSpells
namespace Go.Proofs.Ytjddflnecfokaaa
open Go.ChangeShapes Go.WideShapes Go.ChangeAt Go.RowKit
open Gen

abbrev Fr := Int × Int × Int × Int × Int
def int5 (y : Fr) : List Value := [.int .i64 y.1, .int .i64 y.2.1, .int .i64 y.2.2.1, .int .i64 y.2.2.2.1, .int .i64 y.2.2.2.2]
def repFr : Rep Fr := repF 5 (by decide) int5 (fun _ => rfl)
theorem fr_at {w : World} {p : Option Addr} {n : Nat} {t : List Fr} (S : Vs repFr Any w p n t) {k : Nat} (hk : k < n) :
    ∃ b o x0 x1 x2 x3 x4, p = some ⟨b, o, none⟩ ∧ t[k]? = some (x0, x1, x2, x3, x4) ∧ w.cell? ⟨b, o + k * 5, none⟩ = some (.int .i64 x0) ∧ w.cell? ⟨b, o + k * 5 + 1, none⟩ = some (.int .i64 x1) ∧ w.cell? ⟨b, o + k * 5 + 2, none⟩ = some (.int .i64 x2) ∧ w.cell? ⟨b, o + k * 5 + 3, none⟩ = some (.int .i64 x3) ∧ w.cell? ⟨b, o + k * 5 + 4, none⟩ = some (.int .i64 x4) := by
  obtain ⟨b, o, ⟨x0, x1, x2, x3, x4⟩, e, ht, _, cs, h1, h2⟩ := vs_at S hk
  have h1 : cs = int5 (x0, x1, x2, x3, x4) := h1
  subst h1
  rw [show repFr.k = 5 from rfl] at h2
  exact ⟨b, o, x0, x1, x2, x3, x4, e, ht, h2 0 _ rfl, h2 1 _ rfl, h2 2 _ rfl, h2 3 _ rfl, h2 4 _ rfl⟩
theorem int_at {w : World} {p : Option Addr} {n : Nat} {t : List Int} (S : Vs repInt Any w p n t) {k : Nat} (hk : k < n) :
    ∃ b o x, p = some ⟨b, o, none⟩ ∧ t[k]? = some x ∧ w.cell? ⟨b, o + k, none⟩ = some (.int .i64 x) := by
  obtain ⟨b, o, x, e, ht, _, h⟩ := vs_at S hk
  rw [show repInt.k = 1 from rfl, Nat.mul_one] at h
  exact ⟨b, o, x, e, ht, at_int h⟩
/-- a slice's capacity -/
def Cap (a : Option Addr) (n c : Nat) : Prop := n ≤ c ∧ c ≤ 9223372036854775807 ∧ (a = none → c = 0)
theorem cap_nil : Cap none 0 0 := ⟨Nat.le_refl _, by omega, fun _ => rfl⟩

structure Thr where
  pc : Int
  r : Nat → Int
  fs : List Fr
  st : Int
  ft : Int
  lf : List Int
def zThr : Thr := ⟨0, fun _ => 0, [], 0, 0, []⟩
/-- a thread's lists lie where its cells say -/
structure ThF (w : World) (fa : Option Addr) (fn fc : Nat) (la : Option Addr) (ln lc : Nat) (t : Thr) : Prop where
  fcap : Cap fa fn fc
  fs : Vs repFr Any w fa fn t.fs
  lcap : Cap la ln lc
  lf : Vs repInt Any w la ln t.lf
theorem thF_B {w w' : World} {fa la : Option Addr} {fn fc ln lc : Nat} {t : Thr} (hb : Below w.heap.size w w') (h : ThF w fa fn fc la ln lc t) : ThF w' fa fn fc la ln lc t :=
  ⟨h.fcap, vs_B hb h.fs, h.lcap, vs_B hb h.lf⟩
theorem thF_zero (w : World) : ThF w none 0 0 none 0 0 zThr := ⟨cap_nil, vs_nil, cap_nil, vs_nil⟩

def rightFs (fs : List Fr) : Bool := decide (fs.length ≤ 6) && fs.all (fun f => decide (0 ≤ f.1 ∧ f.1 ≤ 1000))
def rightLf (l : List Int) : Bool := decide (l.length ≤ 8) && l.all (fun n => decide (0 ≤ n ∧ n ≤ 8))
def rightSt (st ft : Int) : Bool := decide ((st = 2 ∧ 1 ≤ ft ∧ ft ≤ 16) ∨ ((st = 0 ∨ st = 1) ∧ ft = 0))
def rightT (t : Thr) : Bool := decide (0 ≤ t.pc ∧ t.pc ≤ 1000) && rightFs t.fs && rightSt t.st t.ft && rightLf t.lf

def FrsTo (fs : List Fr) (k : Nat) : Prop := ∀ i f, i < k → fs[i]? = some f → 0 ≤ f.1 ∧ f.1 ≤ 1000
theorem frsTo_succ {fs : List Fr} {k : Nat} {f : Fr} (h : FrsTo fs k) (hf : fs[k]? = some f) (h1 : 0 ≤ f.1 ∧ f.1 ≤ 1000) : FrsTo fs (k + 1) := by
  intro i g hi hg
  by_cases e : i = k
  · subst e; rw [hf] at hg; cases hg; exact h1
  · exact h i g (by omega) hg
theorem rightFs_yes {fs : List Fr} {n : Nat} (hl : fs.length = n) (hn : n ≤ 6) (h : FrsTo fs n) : rightFs fs = true := by
  simp only [rightFs, Bool.and_eq_true, decide_eq_true_eq, List.all_eq_true]
  refine ⟨by omega, fun f hf => ?_⟩
  obtain ⟨i, hi, rfl⟩ := List.mem_iff_getElem.1 hf
  exact h i _ (by omega) (by simp [hi])
theorem rightFs_at {fs : List Fr} {k : Nat} {f : Fr} (hf : fs[k]? = some f) (h : ¬ (0 ≤ f.1 ∧ f.1 ≤ 1000)) : rightFs fs = false := by
  cases hr : rightFs fs with
  | false => rfl
  | true =>
    simp only [rightFs, Bool.and_eq_true, decide_eq_true_eq, List.all_eq_true] at hr
    exact absurd (hr.2 f (List.mem_of_getElem? hf)) h
theorem rightFs_long {fs : List Fr} (h : ¬ fs.length ≤ 6) : rightFs fs = false := by simp [rightFs, h]
theorem rightFs_len {fs : List Fr} (h : rightFs fs = true) : fs.length ≤ 6 := by
  simp only [rightFs, Bool.and_eq_true, decide_eq_true_eq] at h; exact h.1
def LfTo (fs : List Int) (k : Nat) : Prop := ∀ i f, i < k → fs[i]? = some f → 0 ≤ f ∧ f ≤ 8
theorem lfTo_succ {fs : List Int} {k : Nat} {f : Int} (h : LfTo fs k) (hf : fs[k]? = some f) (h1 : 0 ≤ f ∧ f ≤ 8) : LfTo fs (k + 1) := by
  intro i g hi hg
  by_cases e : i = k
  · subst e; rw [hf] at hg; cases hg; exact h1
  · exact h i g (by omega) hg
theorem rightLf_yes {fs : List Int} {n : Nat} (hl : fs.length = n) (hn : n ≤ 8) (h : LfTo fs n) : rightLf fs = true := by
  simp only [rightLf, Bool.and_eq_true, decide_eq_true_eq, List.all_eq_true]
  refine ⟨by omega, fun f hf => ?_⟩
  obtain ⟨i, hi, rfl⟩ := List.mem_iff_getElem.1 hf
  exact h i _ (by omega) (by simp [hi])
theorem rightLf_at {fs : List Int} {k : Nat} {f : Int} (hf : fs[k]? = some f) (h : ¬ (0 ≤ f ∧ f ≤ 8)) : rightLf fs = false := by
  cases hr : rightLf fs with
  | false => rfl
  | true =>
    simp only [rightLf, Bool.and_eq_true, decide_eq_true_eq, List.all_eq_true] at hr
    exact absurd (hr.2 f (List.mem_of_getElem? hf)) h
theorem rightLf_long {fs : List Int} (h : ¬ fs.length ≤ 8) : rightLf fs = false := by simp [rightLf, h]
theorem rightLf_len {fs : List Int} (h : rightLf fs = true) : fs.length ≤ 8 := by
  simp only [rightLf, Bool.and_eq_true, decide_eq_true_eq] at h; exact h.1

/-! ### slices.Clone -/
theorem eql_nil_s (t e : TypeId) (a : Option Addr) (n c : Nat) (h : Try.prog.underlying t = some (.slice e)) (w : World) : (binOp .eql t (.slice a n c) (.slice none 0 0)).run Try.prog w = .ok (.bool a.isNone) w := by
  simp only [binOp]
  simp [Op.equal, Op.maxDepth, Lib.run_equalIn_slice_nil w 9999 t e a n c 0 0 h]
/-- a copy in memory of its own -/
def CopyPost {α : Type} (r : Rep α) (ys : List α) (w : World) (e : Ending) (w' : World) : Prop := ∃ a c, e = .returned (.slice a ys.length c) ∧ Cap a ys.length c ∧ Vs r (fun b => w.heap.size ≤ b) w' a ys.length ys ∧ Below w.heap.size w w'
theorem copyPost_mk {α : Type} {r : Rep α} {ys : List α} {w w' : World} {e : TypeId} {v : Value} {n : Nat} {cs : List Value} (hn : ys.length = n) (h : w'.ownsRow w.heap.size e r.k v n cs) (hQ : Flat r (fun b => w.heap.size ≤ b) w' cs ys) (hb : Below w.heap.size w w') : CopyPost r ys w (.returned v) w' := by
  obtain ⟨a, c, rfl, h1, h2, h3, h4⟩ := vs_own h hQ (fun b h _ => h)
  subst hn
  exact ⟨a, c, rfl, ⟨h1, h2, h3⟩, h4, hb⟩
/-- elements that are functions of themselves, as cells -/
theorem flat_repF {α : Type} {k : Nat} {hk : 0 < k} {f : α → List Value} {hf : ∀ y, (f y).length = k} {Q : Nat → Prop} {w : World} : ∀ (ys : List α), Flat (repF k hk f hf) Q w (ys.flatMap f) ys
  | [] => rfl
  | y :: ys => ⟨f y, ys.flatMap f, rfl, rfl, flat_repF ys⟩
theorem vs_cellsF {α : Type} {k : Nat} {hk : 0 < k} {f : α → List Value} {hf : ∀ y, (f y).length = k} {Q : Nat → Prop} {w : World} {a : Option Addr} {n : Nat} {ys : List α} (h : Vs (repF k hk f hf) Q w a n ys) : ∀ b, a = some b → ∀ j u, (ys.flatMap f)[j]? = some u → w.cell? (b.add j) = some u := by
  intro b hb j u hu
  have hfl := flat_repF (hk := hk) (hf := hf) (Q := Q) (w := w) ys
  have hlen : (ys.flatMap f).length = ys.length * k := flat_len hfl
  have hj : j < ys.length * k := by rw [← hlen]; exact (List.getElem?_eq_some_iff.1 hu).1
  have hd : j / k < ys.length := (Nat.div_lt_iff_lt_mul hk).2 hj
  obtain ⟨h1, h2⟩ := h
  have h0 : 0 < ys.length := Nat.lt_of_le_of_lt (Nat.zero_le _) hd
  obtain ⟨b', o, e, _, r⟩ := h2.resolve_left (by omega)
  rw [hb] at e
  injection e with e
  subst e
  obtain ⟨cs, e1, e2⟩ := r (j / k) _ (List.getElem?_eq_getElem hd)
  have e1 : cs = f ys[j / k] := e1
  subst e1
  obtain ⟨c, e3, e4⟩ := flat_at hfl (j / k) _ (List.getElem?_eq_getElem hd)
  have e3 : c = f ys[j / k] := e3
  subst e3
  have hm : j % k < (f ys[j / k]).length := by rw [hf]; exact Nat.mod_lt _ hk
  have e5 := e4 (j % k) _ (List.getElem?_eq_getElem hm)
  have e6 := e2 (j % k) _ (List.getElem?_eq_getElem hm)
  have e7 : j / k * (repF k hk f hf).k + j % k = j := Nat.div_add_mod' j k
  rw [e7] at e5
  rw [Nat.add_assoc, e7] at e6
  rw [Gen.add_plain, e6, ← e5, hu]
end Go.Proofs.Ytjddflnecfokaaa
