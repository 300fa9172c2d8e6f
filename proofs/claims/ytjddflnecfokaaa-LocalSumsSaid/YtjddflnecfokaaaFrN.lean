/- Calls and comings back, in plain mathematics. -/
import Derived.Test.YtjddflnecfokaaaFrL
import Derived.Test.YtjddflnecfokaaaFrM
import Derived.Test.YtjddflnecfokaaaFrI
namespace Go.Proofs.Ytjddflnecfokaaa
open Go.ChangeShapes Go.WideShapes Go.ChangeAt Go.RowKit
open Gen

theorem eqR_self (r : Nat → Int) : eqR r r = true := by simp [eqR]
theorem sameT_self (t : Thr) : sameT t t = true := sameT_iff.2 ⟨rfl, eqR_self _, rfl, rfl, rfl, rfl⟩
theorem thF_low {w w' : World} {fa la : Option Addr} {fn fc ln lc : Nat} {t : Thr} (hb : Below w.heap.size w w') (F : ThF w fa fn fc la ln lc t) : ThF w' fa fn fc la ln lc t :=
  (thQ_keep (kept_low hb (fun _ h => h)) (thQ_old F)).f
def cutT (t : Thr) (n m : Nat) : Thr := ⟨t.pc, t.r, t.fs.take n, t.st, t.ft, t.lf.take m⟩
theorem few_F {w : World} {fa la : Option Addr} {fn fc ln lc : Nat} {t : Thr} (F : ThF w fa fn fc la ln lc t) : ThF w fa (min fn 8) fc la (min ln 10) lc (cutT t (min fn 8) (min ln 10)) :=
  ⟨⟨by have := F.fcap.1; omega, F.fcap.2⟩, vs_take F.fs _ (by omega), ⟨by have := F.lcap.1; omega, F.lcap.2⟩, vs_take F.lf _ (by omega)⟩

/-- a call that is made -/
theorem callE_ok {t : Thr} {tg : Int} (h : callE t tg = 0) : rightT t = true ∧ t.pc ≠ 1000 ∧ 0 ≤ tg ∧ tg ≤ 1000 ∧ t.fs.length ≠ 6 ∧ callT t tg = ⟨tg, t.r, t.fs ++ [(t.pc + 1, t.r 4, t.r 5, t.r 6, t.r 7)], t.st, t.ft, t.lf⟩ := by
  have h1 : callT t tg = ⟨tg, t.r, t.fs ++ [(t.pc + 1, t.r 4, t.r 5, t.r 6, t.r 7)], t.st, t.ft, t.lf⟩ := by rw [callT, if_pos h]
  rw [callE] at h
  by_cases hc : rightT t = true ∧ t.pc ≠ 1000 ∧ 0 ≤ tg ∧ tg ≤ 1000
  · rw [if_pos hc] at h
    refine ⟨hc.1, hc.2.1, hc.2.2.1, hc.2.2.2, ?_, h1⟩
    intro e
    rw [if_pos e] at h
    omega
  · rw [if_neg hc] at h; omega
theorem rightFs_app {fs : List Fr} {f : Fr} (h : rightFs fs = true) (hl : fs.length ≠ 6) (hf : 0 ≤ f.1 ∧ f.1 ≤ 1000) : rightFs (fs ++ [f]) = true := by
  simp only [rightFs, Bool.and_eq_true, decide_eq_true_eq, List.all_eq_true] at h ⊢
  refine ⟨by simp only [List.length_append, List.length_cons, List.length_nil]; omega, fun x hx => ?_⟩
  rcases List.mem_append.1 hx with hx | hx
  · exact h.2 x hx
  · simp at hx; subst hx; exact hf
/-- who may be may be with one frame more, in any place and with any registers -/
theorem rightT_app {t : Thr} {pe : Int} {r : Nat → Int} {f : Fr} (h : rightT t = true) (hl : t.fs.length ≠ 6) (hp : 0 ≤ pe ∧ pe ≤ 1000) (hf : 0 ≤ f.1 ∧ f.1 ≤ 1000) : rightT ⟨pe, r, t.fs ++ [f], t.st, t.ft, t.lf⟩ = true := by
  simp only [rightT, Bool.and_eq_true, decide_eq_true_eq] at h ⊢
  exact ⟨⟨⟨hp, rightFs_app h.1.1.2 hl hf⟩, h.1.2⟩, h.2⟩
theorem back_app {t : Thr} {pe : Int} {r : Nat → Int} {f : Fr} (h : rightT t = true) (hl : t.fs.length ≠ 6) (hp : 0 ≤ pe ∧ pe ≤ 1000) (hf : 0 ≤ f.1 ∧ f.1 ≤ 1000) :
    backE ⟨pe, r, t.fs ++ [f], t.st, t.ft, t.lf⟩ = 0 ∧ backT ⟨pe, r, t.fs ++ [f], t.st, t.ft, t.lf⟩ = ⟨f.1, resR r f.2.1 f.2.2.1 f.2.2.2.1 f.2.2.2.2, t.fs, t.st, t.ft, t.lf⟩ := by
  have h1 : backE ⟨pe, r, t.fs ++ [f], t.st, t.ft, t.lf⟩ = 0 := by
    rw [backE, if_pos (rightT_app h hl hp hf), if_neg (by simp)]
  refine ⟨h1, ?_⟩
  have h2 : lastF ⟨pe, r, t.fs ++ [f], t.st, t.ft, t.lf⟩ = f := by simp [lastF, List.getD_eq_getElem?_getD]
  rw [backT, if_pos h1, h2]
  simp
def mixR (a b : Nat → Int) (k : Nat) : Nat → Int := fun i => if i < k then a i else b i
theorem rem_place (z : Int) : 0 ≤ (z.tmod 1001 + 1001).tmod 1001 ∧ (z.tmod 1001 + 1001).tmod 1001 ≤ 1000 := by
  have h1 : -1001 < z.tmod 1001 := Int.lt_tmod_of_pos z (by decide)
  have h2 : 0 ≤ z.tmod 1001 + 1001 := by omega
  have h3 := Int.tmod_nonneg 1001 h2
  have h4 := Int.tmod_lt_of_pos (z.tmod 1001 + 1001) (show (0 : Int) < 1001 by decide)
  omega
end Go.Proofs.Ytjddflnecfokaaa
