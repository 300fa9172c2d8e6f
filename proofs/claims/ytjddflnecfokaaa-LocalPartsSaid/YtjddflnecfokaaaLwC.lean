/- The first assignments of LocalRuns and LocalParts: what has come up so far. -/
import Derived.Test.YtjddflnecfokaaaLoO
import Derived.Test.YtjddflnecfokaaaLoAl
import Derived.Test.YtjddflnecfokaaaFrM7
namespace Go.Proofs.Ytjddflnecfokaaa
open Go.ChangeShapes Go.WideShapes Go.ChangeAt Go.RowKit
open Gen

theorem apT_len7 (t : Thr) (self : Int) (i : In4) : (apT t self i).fs.length ≤ 6 := by
  by_cases h : apE t self i = 0
  · exact (rightT_len (right_do h).1).1
  · rw [apT_no h]; exact Nat.zero_le _
theorem rnT_len (t : Thr) (self : Int) (c : List In4) (m : Int) (h : t.fs.length ≤ 8) : (rnT t self c m).fs.length ≤ 8 := by
  unfold rnT
  split
  · have : ∀ (k : Nat) (t : Thr), t.fs.length ≤ 8 → (runN7 self c k t).1.fs.length ≤ 8 := by
      intro k
      induction k with
      | zero => intro t h; exact h
      | succ k ih =>
        intro t h
        unfold runN7
        split
        · split
          · exact ih _ (Nat.le_trans (apT_len7 _ _ _) (by decide))
          · exact h
        · exact h
    exact this _ _ h
  · exact Nat.zero_le _
theorem wrap_200 (z : Int) : wrap64 (z.tmod 200 + 200) = z.tmod 200 + 200 := by
  have h1 := Int.lt_tmod_of_pos z (show (0 : Int) < 200 by decide)
  have h2 := Int.tmod_lt_of_pos z (show (0 : Int) < 200 by decide)
  exact IntWalk.wrap64_in _ (by omega)
theorem rem_200 (z : Int) : 0 ≤ (z.tmod 200 + 200).tmod 200 ∧ (z.tmod 200 + 200).tmod 200 ≤ 199 := by
  have h1 : -200 < z.tmod 200 := Int.lt_tmod_of_pos z (by decide)
  have h2 : 0 ≤ z.tmod 200 + 200 := by omega
  have h3 := Int.tmod_nonneg 200 h2
  have h4 := Int.tmod_lt_of_pos (z.tmod 200 + 200) (show (0 : Int) < 200 by decide)
  omega
inductive FewR (t u : Thr) (g : Nat) (fa la ca : Option Addr) (fn fc ln lc m9 m12 cn cc mp : Nat) (a0 : Act) (w0 : World) (listed : Array Bool) (act' : Act) (w' : World) : Prop
  | mk (p2 p15 p16 p17 p18 p19 p20 p21 : Value) (xs : List Value) (ea : act' = ((((((((a0.put (some 2) p2).put (some 15) p15).put (some 16) p16).put (some 17) p17).put (some 18) p18).put (some 19) p19).put (some 20) p20).put (some 21) p21)) (hb : Below g w0 w' ∧ VarN w' g xs ∧ xs.length = 13 ∧ (¬ Up listed 7 → xs = [.int .i64 t.pc, .int .i64 (t.r 0), .int .i64 (t.r 1), .int .i64 (t.r 2), .int .i64 (t.r 3), .int .i64 (t.r 4), .int .i64 (t.r 5), .int .i64 (t.r 6), .int .i64 (t.r 7), .slice fa fn fc, .int .i64 t.st, .int .i64 t.ft, .slice la ln lc]) ∧ (¬ Up listed 8 → p2 = .slice ca cn cc)) (hf0 : Up listed 0 → p15 = .agg #[.int .i64 t.pc, .int .i64 (t.r 0), .int .i64 (t.r 1), .int .i64 (t.r 2), .int .i64 (t.r 3), .int .i64 (t.r 4), .int .i64 (t.r 5), .int .i64 (t.r 6), .int .i64 (t.r 7), .slice fa fn fc, .int .i64 t.st, .int .i64 t.ft, .slice la ln lc]) (hf1 : Up listed 1 → p16 = .agg #[.int .i64 u.pc, .int .i64 (u.r 0), .int .i64 (u.r 1), .int .i64 (u.r 2), .int .i64 (u.r 3), .int .i64 (u.r 4), .int .i64 (u.r 5), .int .i64 (u.r 6), .int .i64 (u.r 7), .slice fa m9 fc, .int .i64 u.st, .int .i64 u.ft, .slice la m12 lc]) (hf2 : Up listed 2 → p17 = .slice ca cn cc) (hf3 : Up listed 3 → p18 = .slice ca cn cc) (hf4 : Up listed 4 → p19 = .int .i64 cn) (hf5 : Up listed 5 → p20 = .int .i64 mp) (hf6 : Up listed 6 → p21 = .slice ca mp cc) (hS : Up listed 7 → Up listed 0 ∧ xs = [.int .i64 u.pc, .int .i64 (u.r 0), .int .i64 (u.r 1), .int .i64 (u.r 2), .int .i64 (u.r 3), .int .i64 (u.r 4), .int .i64 (u.r 5), .int .i64 (u.r 6), .int .i64 (u.r 7), .slice fa m9 fc, .int .i64 u.st, .int .i64 u.ft, .slice la m12 lc]) (hU : Up listed 8 → Up listed 2 ∧ Up listed 3 ∧ p2 = .slice ca mp cc) : FewR t u g fa la ca fn fc ln lc m9 m12 cn cc mp a0 w0 listed act' w'
inductive FewP (t u : Thr) (g : Nat) (fa la ca : Option Addr) (fn fc ln lc m9 m12 cn cc mp : Nat) (a3 a4 : Int) (a0 : Act) (w0 : World) (listed : Array Bool) (act' : Act) (w' : World) : Prop
  | mk (p2 p3 p4 p20 p21 p22 p23 p24 p25 p26 p27 p28 p29 p30 p31 p32 p33 p34 : Value) (xs : List Value) (ea : act' = ((((((((((((((((((a0.put (some 2) p2).put (some 3) p3).put (some 4) p4).put (some 20) p20).put (some 21) p21).put (some 22) p22).put (some 23) p23).put (some 24) p24).put (some 25) p25).put (some 26) p26).put (some 27) p27).put (some 28) p28).put (some 29) p29).put (some 30) p30).put (some 31) p31).put (some 32) p32).put (some 33) p33).put (some 34) p34)) (hb : Below g w0 w' ∧ VarN w' g xs ∧ xs.length = 13 ∧ (¬ Up listed 15 → xs = [.int .i64 t.pc, .int .i64 (t.r 0), .int .i64 (t.r 1), .int .i64 (t.r 2), .int .i64 (t.r 3), .int .i64 (t.r 4), .int .i64 (t.r 5), .int .i64 (t.r 6), .int .i64 (t.r 7), .slice fa fn fc, .int .i64 t.st, .int .i64 t.ft, .slice la ln lc]) ∧ (¬ Up listed 16 → p2 = .slice ca cn cc) ∧ (¬ Up listed 17 → p3 = .int .i64 a3) ∧ (¬ Up listed 18 → p4 = .int .i64 a4)) (hf0 : Up listed 0 → p20 = .agg #[.int .i64 t.pc, .int .i64 (t.r 0), .int .i64 (t.r 1), .int .i64 (t.r 2), .int .i64 (t.r 3), .int .i64 (t.r 4), .int .i64 (t.r 5), .int .i64 (t.r 6), .int .i64 (t.r 7), .slice fa fn fc, .int .i64 t.st, .int .i64 t.ft, .slice la ln lc]) (hf1 : Up listed 1 → p21 = .agg #[.int .i64 u.pc, .int .i64 (u.r 0), .int .i64 (u.r 1), .int .i64 (u.r 2), .int .i64 (u.r 3), .int .i64 (u.r 4), .int .i64 (u.r 5), .int .i64 (u.r 6), .int .i64 (u.r 7), .slice fa m9 fc, .int .i64 u.st, .int .i64 u.ft, .slice la m12 lc]) (hf2 : Up listed 2 → p22 = .slice ca cn cc) (hf3 : Up listed 3 → p23 = .slice ca cn cc) (hf4 : Up listed 4 → p24 = .int .i64 cn) (hf5 : Up listed 5 → p25 = .int .i64 mp) (hf6 : Up listed 6 → p26 = .slice ca mp cc) (hf7 : Up listed 7 → p27 = .int .i64 a3) (hf8 : Up listed 8 → p28 = .int .i64 (a3.tmod 200)) (hf9 : Up listed 9 → p29 = .int .i64 (a3.tmod 200 + 200)) (hf10 : Up listed 10 → p30 = .int .i64 ((a3.tmod 200 + 200).tmod 200)) (hf11 : Up listed 11 → p31 = .int .i64 a4) (hf12 : Up listed 12 → p32 = .int .i64 (a4.tmod 200)) (hf13 : Up listed 13 → p33 = .int .i64 (a4.tmod 200 + 200)) (hf14 : Up listed 14 → p34 = .int .i64 ((a4.tmod 200 + 200).tmod 200)) (hS : Up listed 15 → Up listed 0 ∧ xs = [.int .i64 u.pc, .int .i64 (u.r 0), .int .i64 (u.r 1), .int .i64 (u.r 2), .int .i64 (u.r 3), .int .i64 (u.r 4), .int .i64 (u.r 5), .int .i64 (u.r 6), .int .i64 (u.r 7), .slice fa m9 fc, .int .i64 u.st, .int .i64 u.ft, .slice la m12 lc]) (hU : Up listed 16 → Up listed 2 ∧ Up listed 3 ∧ p2 = .slice ca mp cc) (hV : Up listed 17 → Up listed 7 ∧ p3 = .int .i64 ((a3.tmod 200 + 200).tmod 200)) (hW : Up listed 18 → Up listed 11 ∧ p4 = .int .i64 ((a4.tmod 200 + 200).tmod 200)) : FewP t u g fa la ca fn fc ln lc m9 m12 cn cc mp a3 a4 a0 w0 listed act' w'
end Go.Proofs.Ytjddflnecfokaaa
