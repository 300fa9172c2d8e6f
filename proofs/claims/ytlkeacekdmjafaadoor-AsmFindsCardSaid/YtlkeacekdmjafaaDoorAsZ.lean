/- The walk of the statement on where labels stand. -/
import Derived.Test.YtlkeacekdmjafaaDoorAsY
import Derived.Deep.QuietTactic
namespace Go.Proofs.YtlkeacekdmjafaaDoor
open Go.ChangeShapes Go.WideShapes Go.ChangeAt Go.RowKit
open Gen

set_option maxRecDepth 100000 in
set_option maxHeartbeats 2000000 in
theorem AsmFinds_walk (one lab : ByteArray) (w : World) (h1 : one.size ≤ 9223372036854775807) (h2 : lab.size ≤ 9223372036854775807) (G : Glob w) :
    Calls Tryd.prog 5 #[.string one, .string lab] w (BoolPost true w) := by
  obtain ⟨s, hs⟩ : ∃ s, one.data.toList.take 3000 = s := ⟨_, rfl⟩
  have ls : s.length ≤ 3000 := by rw [← hs, List.length_take]; omega
  have pt1 := fun (d : Nat) => part_any one (w.drewN d) h1
  rw [hs] at pt1
  obtain ⟨K, hK⟩ : ∃ K : Nat, min (lab.size : Int) 20 = K := ⟨(min (lab.size : Int) 20).toNat, by omega⟩
  have hK1 : (0 : Int) ≤ K := by omega
  have hK2 : (K : Int) ≤ lab.size := by omega
  obtain ⟨q, hq⟩ : ∃ q, lab.extract 0 K = q := ⟨_, rfl⟩
  have hqs : q.size ≤ 50000 := by rw [← hq]; simp; omega
  have hp2 := fun (W : World) => refParse_any (str s) W (by rw [str_size]; omega)
  obtain ⟨⟨a, n1, e1⟩, r1⟩ : ∃ r, parseL s = r := ⟨_, rfl⟩
  rw [r1] at hp2
  by_cases he : e1 = 0
  · subst he
    obtain rfl := parse_zero r1
    have hw1 := fun (W : World) (GW : Glob W) => where_ok s q a W (by omega) (by omega) GW r1
    have hw2 := fun (W : World) => refWhere_any s q W (by omega) hqs
    have hsame := where_same (q := q.data.toList) (by omega) r1
    cases hr : targR (parts 10 s) 0 q.data.toList with
    | none =>
      rw [hr] at hsame
      have hf : labAt (linesL s) q.data.toList = none := by
        cases h : labAt (linesL s) q.data.toList with
        | none => rfl
        | some p => rw [h] at hsame; cases hsame
      simp only [hr, whV, Option.getD, Option.isSome] at hw2
      simp only [hf, Option.getD, Option.isSome] at hw1
      clear hsame hr hf hs r1
      go_enter Tryd.func5, Tryd.ntmps5
      go_wp2_with fail
      go_quiet ((go_at_call 8; exact Calls.quiet_of_same (pt1 _)))
      have hb0 : Below w.heap.size w (w.drewN nq) := below_drewN (Below.refl _ _) nq
      have G0 := G.B hb0
      go_wp2_with (first
        | (go_at_call 18; refine (hw1 _ G0).mono ?_; clear hw1; rintro e w1 ⟨rfl, b1⟩; have G1 := G0.B b1; have B1 := below_from hb0 b1)
        | (go_at_call 10; refine (hp2 _).mono ?_; clear hp2; rintro e w2 ⟨a2, c2, rfl, -, -, -, b2⟩; have G2 := G1.B b2; have B2 := below_from B1 b2)
        | (go_at_call 19; refine (hw2 _).mono ?_; clear hw2; rintro e w3 ⟨rfl, b3⟩; have G3 := G2.B b3; have B3 := below_from B2 b3)
        | (go_at_call 11; refine (alive_k_any _ G3).mono ?_; rintro e w4 ⟨rfl, b4⟩; have B4 := below_from B3 b4))
      go_ret
      exact boolPost_mk rfl B4
    | some v =>
      rw [hr] at hsame
      obtain ⟨x, hf⟩ : ∃ x, labAt (linesL s) q.data.toList = some (x, (v : Int)) := by
        cases h : labAt (linesL s) q.data.toList with
        | none => rw [h] at hsame; cases hsame
        | some p =>
          rw [h] at hsame
          injection hsame with hsame
          dsimp only at hsame
          exact ⟨p.1, by rw [hsame]⟩
      simp only [hr, whV, Option.getD, Option.isSome] at hw2
      simp only [hf, Option.getD, Option.isSome] at hw1
      clear hsame hr hf hs r1
      go_enter Tryd.func5, Tryd.ntmps5
      go_wp2_with fail
      go_quiet ((go_at_call 8; exact Calls.quiet_of_same (pt1 _)))
      have hb0 : Below w.heap.size w (w.drewN nq) := below_drewN (Below.refl _ _) nq
      have G0 := G.B hb0
      go_wp2_with (first
        | (go_at_call 18; refine (hw1 _ G0).mono ?_; clear hw1; rintro e w1 ⟨rfl, b1⟩; have G1 := G0.B b1; have B1 := below_from hb0 b1)
        | (go_at_call 10; refine (hp2 _).mono ?_; clear hp2; rintro e w2 ⟨a2, c2, rfl, -, -, -, b2⟩; have G2 := G1.B b2; have B2 := below_from B1 b2)
        | (go_at_call 19; refine (hw2 _).mono ?_; clear hw2; rintro e w3 ⟨rfl, b3⟩; have G3 := G2.B b3; have B3 := below_from B2 b3)
        | (go_at_call 11; refine (alive_k_any _ G3).mono ?_; rintro e w4 ⟨rfl, b4⟩; have B4 := below_from B3 b4))
      go_ret
      exact boolPost_mk rfl B4
  · obtain rfl := parse_empty r1 he
    have hw1 := fun (W : World) (GW : Glob W) => where_bad s q n1 e1 W (by omega) GW r1 he
    have q1 : (e1 != 0) = true := by simpa using he
    have q2 : (e1 == 0) = false := by simpa using he
    clear he hs r1
    go_enter Tryd.func5, Tryd.ntmps5
    go_wp2_with fail
    go_quiet ((go_at_call 8; exact Calls.quiet_of_same (pt1 _)))
    have hb0 : Below w.heap.size w (w.drewN nq) := below_drewN (Below.refl _ _) nq
    have G0 := G.B hb0
    go_wp2_with (first
      | (go_at_call 18; refine (hw1 _ G0).mono ?_; clear hw1; rintro e w1 ⟨rfl, b1⟩; have G1 := G0.B b1; have B1 := below_from hb0 b1)
      | (go_at_call 10; refine (hp2 _).mono ?_; clear hp2; rintro e w2 ⟨a2, c2, rfl, -, -, -, b2⟩; have G2 := G1.B b2; have B2 := below_from B1 b2)
      | (go_at_call 11; refine (alive_k_any _ G2).mono ?_; rintro e w4 ⟨rfl, b4⟩; have B4 := below_from B2 b4))
    go_ret
    exact boolPost_mk rfl B4
end Go.Proofs.YtlkeacekdmjafaaDoor
