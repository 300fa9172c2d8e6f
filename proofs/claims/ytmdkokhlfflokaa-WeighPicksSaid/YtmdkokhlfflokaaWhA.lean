/- Package weigh: Less, first, Least. -/
import Derived.Test.YtmdkokhlfflokaaWgE
import Derived.Test.YtmdkokhlfflokaaWhM
import Derived.Laws.Externs
namespace Go.Proofs.Ytmdkokhlfflokaa
open Go.ChangeShapes Go.WideShapes Go.ChangeAt Go.RowKit
open Gen
set_option maxHeartbeats 2000000 in
theorem isnan_any (x : Nat) (w : World) : Calls Try.prog 22 #[.float .f64 x] w (BoolStill (Fl.isn x) w) := by
  have c1 : (FloatKind.f64.format.order x x != some .eq) = Fl.isn x := Fl.neq_self x
  go_enter Try.func22, Try.ntmps22
  go_wp2
  go_ret
  exact boolStill_mk rfl rfl
theorem bits_run (x : Nat) (w : World) : (callFunc 28 #[.float .f64 x]).run Try.prog w = .ok (.value (.int .u64 x)) w := by
  rw [run_callFunc_extern (P := Try.prog) (f := 28) (fn := Try.f28) (e := Extern.MathFloatBits.float64bits) (by kernel_rfl) (by kernel_rfl) (by kernel_rfl) (by kernel_rfl) (by kernel_rfl)]
  rfl
theorem sgn_wrap {x : Nat} (hx : FlWf x) : decide (wrap64 (x : Int) < 0) = Fl.sgn x := by
  unfold FlWf at hx
  unfold Fl.sgn wrap64
  by_cases h : x < 9223372036854775808
  · rw [show x / 9223372036854775808 % 2 = 0 by omega, decide_eq_false (by omega)]; rfl
  · rw [show x / 9223372036854775808 % 2 = 1 by omega, decide_eq_true (by omega)]; rfl
set_option maxHeartbeats 2000000 in
theorem signbit_any (x : Nat) (w : World) (hx : FlWf x) : Calls Try.prog 23 #[.float .f64 x] w (BoolStill (Fl.sgn x) w) := by
  have hd := bits_run x w
  have HS := Lib.hid (sgn_wrap hx)
  clear hx
  go_enter Try.func23, Try.ntmps23
  go_wp2
  go_ret
  exact boolStill_mk HS.out.symm rfl
theorem sgn_zero {x : Nat} : Fl.S x ≠ 0 → Fl.sgn x = decide (Fl.S x < 0) := by
  intro h
  unfold Fl.S Fl.sv at h ⊢
  cases hs : Fl.sgn x with
  | true => rw [hs, if_pos rfl] at h; rw [if_pos rfl, decide_eq_true (by omega)]
  | false => rw [if_neg (by decide), decide_eq_false (by omega)]
set_option maxHeartbeats 4000000 in
theorem wLess_any (x y : Nat) (w : World) (hx : FlWf x) (hy : FlWf y) : Calls Try.prog 10 #[.float .f64 x, .float .f64 y] w (BoolStill (Fl.lessF x y) w) := by
  have HR := Lib.hid (Fl.less_rule x y)
  have c3 : (FloatKind.f64.format.order x y == some .eq) = (!Fl.isn x && !Fl.isn y && decide (Fl.S x = Fl.S y)) := Fl.eq_of
  have c5 : (FloatKind.f64.format.order x y == some .lt) = (!Fl.isn x && !Fl.isn y && decide (Fl.S x < Fl.S y)) := Fl.lt_of
  have Q1 := Lib.hid (fun u => isnan_any x u)
  have Q2 := Lib.hid (fun u => isnan_any y u)
  have Q3 := Lib.hid (fun u => signbit_any x u hx)
  have Q4 := Lib.hid (fun u => signbit_any y u hy)
  have HS := Lib.hid (And.intro (@sgn_zero x) (@sgn_zero y))
  clear hx hy
  cases nx : Fl.isn x with
  | true =>
    have HL := Lib.hid (show Fl.lessF x y = false by rw [HR.out, nx]; rfl)
    rw [nx] at Q1
    clear c3 c5 nx HS
    go_enter Try.func10, Try.ntmps10
    go_wp2_with fail
    refine (Q1.out _).mono ?_
    rintro e w1 ⟨rfl, rfl⟩
    go_wp2_with fail
    refine (Q1.out _).mono ?_
    rintro e w1 ⟨rfl, rfl⟩
    go_wp2
    go_ret
    exact boolStill_mk HL.out rfl
  | false =>
    rw [nx] at Q1 c3 c5
    cases ny : Fl.isn y with
    | true =>
      have HL := Lib.hid (show Fl.lessF x y = true by rw [HR.out, nx, ny]; rfl)
      rw [ny] at Q2
      clear c3 c5 nx ny HS
      go_enter Try.func10, Try.ntmps10
      go_wp2_with fail
      refine (Q1.out _).mono ?_
      rintro e w1 ⟨rfl, rfl⟩
      go_wp2_with fail
      refine (Q2.out _).mono ?_
      rintro e w1 ⟨rfl, rfl⟩
      go_wp2_with fail
      refine (Q1.out _).mono ?_
      rintro e w1 ⟨rfl, rfl⟩
      go_wp2
      go_ret
      exact boolStill_mk HL.out rfl
    | false =>
      rw [ny] at Q2 c3 c5
      simp only [Bool.not_false, Bool.true_and] at c3 c5
      by_cases hl : Fl.S x < Fl.S y
      · rw [decide_eq_true hl] at c5
        have HL := Lib.hid (show Fl.lessF x y = true by
          rw [HR.out, nx, ny, if_neg (by decide), if_neg (by decide), if_neg (fun h => by omega)]; exact decide_eq_true hl)
        clear c3 nx ny hl HS
        go_enter Try.func10, Try.ntmps10
        go_wp2_with fail
        refine (Q1.out _).mono ?_
        rintro e w1 ⟨rfl, rfl⟩
        go_wp2_with fail
        refine (Q2.out _).mono ?_
        rintro e w1 ⟨rfl, rfl⟩
        go_wp2
        go_ret
        exact boolStill_mk HL.out rfl
      · rw [decide_eq_false hl] at c5
        by_cases he : Fl.S x = Fl.S y
        · rw [decide_eq_true he] at c3
          have HL := Lib.hid (show Fl.lessF x y = (Fl.sgn x && !Fl.sgn y) by
            rw [HR.out, nx, ny, if_neg (by decide), if_neg (by decide)]
            by_cases h0 : Fl.S x = 0
            · rw [if_pos ⟨h0, by omega⟩]
            · rw [if_neg (fun h => h0 h.1), decide_eq_false hl]
              have h1 := HS.out.1
              have h2 := HS.out.2
              rw [h1 h0, h2 (by omega), he]
              cases decide (Fl.S y < 0) <;> rfl)
          obtain ⟨b1, hb1⟩ : ∃ b, Fl.sgn x = b := ⟨_, rfl⟩
          obtain ⟨b2, hb2⟩ : ∃ b, Fl.sgn y = b := ⟨_, rfl⟩
          rw [hb1] at Q3 HL
          rw [hb2] at Q4 HL
          clear nx ny hl he HS hb1 hb2
          go_enter Try.func10, Try.ntmps10
          go_wp2_with fail
          refine (Q1.out _).mono ?_
          rintro e w1 ⟨rfl, rfl⟩
          go_wp2_with fail
          refine (Q2.out _).mono ?_
          rintro e w1 ⟨rfl, rfl⟩
          cases b1 with
          | true =>
            go_wp2_with fail
            refine (Q3.out _).mono ?_
            rintro e w1 ⟨rfl, rfl⟩
            go_wp2_with fail
            refine (Q4.out _).mono ?_
            rintro e w1 ⟨rfl, rfl⟩
            go_wp2
            go_ret
            exact boolStill_mk HL.out rfl
          | false =>
            go_wp2_with fail
            refine (Q3.out _).mono ?_
            rintro e w1 ⟨rfl, rfl⟩
            go_wp2
            go_ret
            exact boolStill_mk HL.out rfl
        · rw [decide_eq_false he] at c3
          have HL := Lib.hid (show Fl.lessF x y = false by
            rw [HR.out, nx, ny, if_neg (by decide), if_neg (by decide), if_neg (fun h => he (by omega))]; exact decide_eq_false hl)
          clear nx ny hl he HS
          go_enter Try.func10, Try.ntmps10
          go_wp2_with fail
          refine (Q1.out _).mono ?_
          rintro e w1 ⟨rfl, rfl⟩
          go_wp2_with fail
          refine (Q2.out _).mono ?_
          rintro e w1 ⟨rfl, rfl⟩
          go_wp2
          go_ret
          exact boolStill_mk HL.out rfl
end Go.Proofs.Ytmdkokhlfflokaa
