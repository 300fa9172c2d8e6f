/- Arguments that are slices of slices of puts, opened to their cells. -/
import Derived.Test.YteojpdhmhjoeiaaBaseT
import Derived.Test.YteojpdhmhjoeiaaOpenP
import Derived.Deep.Slices
namespace Go.Proofs.Yteojpdhmhjoeiaa
open Go.ChangeShapes Go.WideShapes Go.ChangeAt Go.RowKit

/-- what the frame of a statement's proof tells of a slice of buffers that came in -/
def IsBufs (w : World) (a : Option Addr) (len cap : Nat) (bs : List (List (Int × Int))) : Prop :=
  (a = none ∧ len = 0 ∧ cap = 0 ∧ bs = []) ∨
  ∃ x : Addr, a = some x ∧ len ≤ cap ∧ cap ≤ maxLen ∧ bs.length = len ∧ ∀ i, i < len → BCell w (x.add i) (bs.getD i [])
theorem isBufs_bl {w : World} {a : Option Addr} {len cap : Nat} {bs : List (List (Int × Int))} (h : IsBufs w a len cap bs) : Bl w a len bs ∧ len ≤ cap ∧ cap ≤ 9223372036854775807 := by
  rcases h with ⟨rfl, rfl, rfl, rfl⟩ | ⟨x, rfl, hl, hm, hz, hcell⟩
  · exact ⟨bl_nil w, Nat.le_refl _, by omega⟩
  · unfold maxLen at hm
    refine ⟨⟨hz, ?_⟩, hl, by omega⟩
    by_cases h0 : len = 0
    · exact .inl h0
    · right
      obtain ⟨b, o, s⟩ := x
      obtain ⟨q, c, hc, _⟩ := hcell 0 (by omega)
      have hs : s = none := by simpa [Addr.add] using World.cell?_spot hc
      subst hs
      refine ⟨b, o, rfl, fun i hi => ?_⟩
      have := hcell i (by omega)
      rw [add_none] at this
      exact this
section
variable {H : Type} {enc : TypeId × Value → H} {w : World} {base : Nat} {spare : Nat → Bool} {held : Bool}
set_option maxRecDepth 100000 in
theorem open_bufs {fuel : Nat} {cs : List Value} {x : DataW H × List MemPlace} (h : DataW.trod enc Try.prog w base spare held fuel 23 cs = some x) :
    cs = [.slice none 0 0] ∨ ∃ (a : Addr) (len cap : Nat) (bs : List (List (Int × Int))), cs = [.slice (some a) len cap] ∧ len ≤ cap ∧ cap ≤ maxLen ∧ bs.length = len ∧ ∀ i, i < len → BCell w (a.add i) (bs.getD i []) := by
  rcases Go.Deep.open_slice1 Try.underlying23 (by kernel_rfl) h with ⟨hcs, _⟩ | ⟨a, len, cap, m, n, V, D, P, hcs, _, hl, hm, hmm, _, hc⟩
  · exact .inl hcs
  · have hlm : len ≤ m := by rw [hmm]; split <;> omega
    have each : ∀ i, i < len → ∃ b : List (Int × Int), BCell w (a.add i) b := by
      intro i hi
      obtain ⟨c0, t0⟩ := hc i (by omega)
      rcases open_puts t0 with e | ⟨p, l, c, ps, e, h1, h2, h3, h4, h5⟩
      · simp only [List.cons.injEq, and_true] at e
        exact ⟨[], none, 0, by rw [c0, e]; rfl, capOk_nil, pl_nil _⟩
      · simp only [List.cons.injEq, and_true] at e
        obtain ⟨hp, _, hk⟩ := isPuts_pl (w := w) (.inr ⟨p, rfl, h1, h2, h3, h4, h5⟩ : IsPuts w (some p) l c ps) l (Nat.le_refl _)
        rw [List.take_of_length_le (by omega)] at hp
        refine ⟨ps, some p, c, ?_, ?_, ?_⟩
        · rw [c0, e, h3]
        · rw [h3]; exact hk
        · rw [h3]; exact hp
    obtain ⟨y, hy⟩ := Go.Deep.choose_lt each
    refine .inr ⟨a, len, cap, (List.range len).map y, hcs, hl, hm, by simp, fun i hi => ?_⟩
    have e : ((List.range len).map y).getD i [] = y i := by simp [hi]
    rw [e]
    exact hy i hi
end
end Go.Proofs.Yteojpdhmhjoeiaa
