/- Contracts of the document's own answers of layer 10 (package respiteref10): Less, Counts, Some, Least. -/
import Derived.Test.YtmdkokhlfflokaaFlB
import Derived.Test.YtmdkokhlfflokaaFlO
import Derived.Test.YtmdkokhlfflokaaWd
import Derived.Laws.FloatArith
import Derived.WalkLawsBesides
import Derived.BigQuiet
namespace Go.Proofs.Ytmdkokhlfflokaa
open Go.ChangeShapes Go.WideShapes Go.ChangeAt Go.RowKit
open Gen
/-- a bool, and the world as it was -/
def BoolStill (z : Bool) (w : World) (e : Ending) (w' : World) : Prop := e = .returned (.bool z) ∧ w' = w
theorem boolStill_mk {z z' : Bool} {w w' : World} (h : z = z') (hw : w' = w) : BoolStill z w (.returned (.bool z')) w' := by subst h; exact ⟨rfl, hw⟩

set_option maxHeartbeats 2000000 in
theorem below_any (x : Nat) (w : World) (hx : FlWf x) (h0 : Fl.S x = 0) (hn : Fl.isn x = false) : Calls Try.prog 24 #[.float .f64 x] w (BoolStill (Fl.sgn x) w) := by
  obtain ⟨r, hr, hs⟩ := Fl.zero_below hx h0 hn
  have hd := run_float_arith (P := Try.prog) w .quo 23 .f64 4607182418800017408 x r hr
  have hc : (FloatKind.f64.format.order r 0 == some .lt) = Fl.sgn x := hs
  clear hx h0 hn hr hs
  go_enter Try.func24, Try.ntmps24
  go_wp2
  go_ret
  exact boolStill_mk rfl rfl
set_option maxHeartbeats 2000000 in
theorem ref10Less_any (x y : Nat) (w : World) (hx : FlWf x) (hy : FlWf y) : Calls Try.prog 11 #[.float .f64 x, .float .f64 y] w (BoolStill (Fl.lessF x y) w) := by
  have HR := Lib.hid (Fl.less_rule x y)
  have c1 : (FloatKind.f64.format.order x x != some .eq) = Fl.isn x := Fl.neq_self x
  have c2 : (FloatKind.f64.format.order y y != some .eq) = Fl.isn y := Fl.neq_self y
  have c3 : (FloatKind.f64.format.order x 0 == some .eq) = (!Fl.isn x && !Fl.isn 0 && decide (Fl.S x = Fl.S 0)) := Fl.eq_of
  have c4 : (FloatKind.f64.format.order y 0 == some .eq) = (!Fl.isn y && !Fl.isn 0 && decide (Fl.S y = Fl.S 0)) := Fl.eq_of
  have c5 : (FloatKind.f64.format.order x y == some .lt) = (!Fl.isn x && !Fl.isn y && decide (Fl.S x < Fl.S y)) := Fl.lt_of
  have z1 : Fl.isn 0 = false := by decide
  have z2 : Fl.S 0 = 0 := by decide
  rw [z1, z2] at c3 c4
  cases nx : Fl.isn x with
  | true =>
    rw [nx] at c1
    have HL := Lib.hid (show Fl.lessF x y = false by rw [HR.out, nx]; rfl)
    clear c2 c3 c4 c5 z1 z2 nx
    go_enter Try.func11, Try.ntmps11
    go_wp2
    go_ret
    exact boolStill_mk HL.out rfl
  | false =>
    rw [nx] at c1 c3 c5
    cases ny : Fl.isn y with
    | true =>
      rw [ny] at c2
      have HL := Lib.hid (show Fl.lessF x y = true by rw [HR.out, nx, ny]; rfl)
      clear c3 c4 c5 z1 z2 nx ny
      go_enter Try.func11, Try.ntmps11
      go_wp2
      go_ret
      exact boolStill_mk HL.out rfl
    | false =>
      rw [ny] at c2 c4 c5
      simp only [Bool.not_false, Bool.true_and] at c3 c4 c5
      by_cases hx0 : Fl.S x = 0
      · rw [decide_eq_true hx0] at c3
        by_cases hy0 : Fl.S y = 0
        · rw [decide_eq_true hy0] at c4
          have HL := Lib.hid (show Fl.lessF x y = (Fl.sgn x && !Fl.sgn y) by rw [HR.out, nx, ny, if_neg (by decide), if_neg (by decide), if_pos ⟨hx0, hy0⟩])
          have q1 := fun w => below_any x w hx hx0 nx
          have q2 := fun w => below_any y w hy hy0 ny
          obtain ⟨b1, hb1⟩ : ∃ b, Fl.sgn x = b := ⟨_, rfl⟩
          obtain ⟨b2, hb2⟩ : ∃ b, Fl.sgn y = b := ⟨_, rfl⟩
          rw [hb1] at q1 HL
          rw [hb2] at q2 HL
          have Q1 := Lib.hid q1
          have Q2 := Lib.hid q2
          clear c5 z1 z2 nx ny hx0 hy0 hx hy q1 q2 hb1 hb2
          go_enter Try.func11, Try.ntmps11
          cases b1 with
          | true =>
            go_wp2_with fail
            refine (Q1.out _).mono ?_
            rintro e w1 ⟨rfl, rfl⟩
            go_wp2_with fail
            refine (Q2.out _).mono ?_
            rintro e w1 ⟨rfl, rfl⟩
            go_wp2
            go_ret
            exact boolStill_mk HL.out rfl
          | false =>
            go_wp2_with fail
            refine (Q1.out _).mono ?_
            rintro e w1 ⟨rfl, rfl⟩
            go_wp2
            go_ret
            exact boolStill_mk HL.out rfl
        · rw [decide_eq_false hy0] at c4
          have HL := Lib.hid (show Fl.lessF x y = decide (Fl.S x < Fl.S y) by rw [HR.out, nx, ny, if_neg (by decide), if_neg (by decide), if_neg (fun h => hy0 h.2)])
          clear z1 z2 nx ny hx0 hy0 hx hy
          go_enter Try.func11, Try.ntmps11
          go_wp2
          go_ret
          exact boolStill_mk HL.out rfl
      · rw [decide_eq_false hx0] at c3
        have HL := Lib.hid (show Fl.lessF x y = decide (Fl.S x < Fl.S y) by rw [HR.out, nx, ny, if_neg (by decide), if_neg (by decide), if_neg (fun h => hx0 h.1)])
        clear c4 z1 z2 nx ny hx0 hx hy
        go_enter Try.func11, Try.ntmps11
        go_wp2
        go_ret
        exact boolStill_mk HL.out rfl
set_option maxHeartbeats 2000000 in
theorem counts_any (x : Nat) (w : World) (hx : FlWf x) : Calls Try.prog 27 #[.float .f64 x] w (BoolStill (Fl.cnt x) w) := by
  have hc : (FloatKind.f64.format.order x 0 == some .gt) = Fl.cnt x := Fl.counts_of hx
  clear hx
  go_enter Try.func27, Try.ntmps27
  go_wp2
  go_ret
  exact boolStill_mk rfl rfl
end Go.Proofs.Ytmdkokhlfflokaa
