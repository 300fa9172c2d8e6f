/- FrameNests' first assignment: what has come up so far. -/
import Derived.Test.YtpdghgpmjadnnaaFrP
namespace Go.Proofs.Ytpdghgpmjadnnaa
open Go.ChangeShapes Go.WideShapes Go.ChangeAt Go.RowKit
open Gen

inductive NestInv (t u : Thr) (g : Nat) (fa la pa : Option Addr) (fn fc ln lc m9 m12 pn pc mp : Nat) (a0 : Act) (w0 : World) (listed : Array Bool) (act' : Act) (w' : World) : Prop
  | mk (p1 p16 p17 p18 p19 p20 p21 p22 : Value) (xs : List Value) (ea : act' = ((((((((a0.put (some 1) p1).put (some 16) p16).put (some 17) p17).put (some 18) p18).put (some 19) p19).put (some 20) p20).put (some 21) p21).put (some 22) p22)) (hb : Below g w0 w' ∧ VarN w' g xs ∧ xs.length = 13 ∧ (¬ Up listed 7 → xs = [.int .i64 t.pc, .int .i64 (t.r 0), .int .i64 (t.r 1), .int .i64 (t.r 2), .int .i64 (t.r 3), .int .i64 (t.r 4), .int .i64 (t.r 5), .int .i64 (t.r 6), .int .i64 (t.r 7), .slice fa fn fc, .int .i64 t.st, .int .i64 t.ft, .slice la ln lc]) ∧ (¬ Up listed 8 → p1 = .slice pa pn pc)) (hf0 : Up listed 0 → p16 = .agg #[.int .i64 t.pc, .int .i64 (t.r 0), .int .i64 (t.r 1), .int .i64 (t.r 2), .int .i64 (t.r 3), .int .i64 (t.r 4), .int .i64 (t.r 5), .int .i64 (t.r 6), .int .i64 (t.r 7), .slice fa fn fc, .int .i64 t.st, .int .i64 t.ft, .slice la ln lc]) (hf1 : Up listed 1 → p17 = .agg #[.int .i64 u.pc, .int .i64 (u.r 0), .int .i64 (u.r 1), .int .i64 (u.r 2), .int .i64 (u.r 3), .int .i64 (u.r 4), .int .i64 (u.r 5), .int .i64 (u.r 6), .int .i64 (u.r 7), .slice fa m9 fc, .int .i64 u.st, .int .i64 u.ft, .slice la m12 lc]) (hf2 : Up listed 2 → p18 = .slice pa pn pc) (hf3 : Up listed 3 → p19 = .slice pa pn pc) (hf4 : Up listed 4 → p20 = .int .i64 pn) (hf5 : Up listed 5 → p21 = .int .i64 mp) (hf6 : Up listed 6 → p22 = .slice pa mp pc) (hS : Up listed 7 → Up listed 0 ∧ xs = [.int .i64 u.pc, .int .i64 (u.r 0), .int .i64 (u.r 1), .int .i64 (u.r 2), .int .i64 (u.r 3), .int .i64 (u.r 4), .int .i64 (u.r 5), .int .i64 (u.r 6), .int .i64 (u.r 7), .slice fa m9 fc, .int .i64 u.st, .int .i64 u.ft, .slice la m12 lc]) (hU : Up listed 8 → Up listed 2 ∧ Up listed 3 ∧ p1 = .slice pa mp pc) : NestInv t u g fa la pa fn fc ln lc m9 m12 pn pc mp a0 w0 listed act' w'

theorem kept_drews {Q : Nat → Prop} {w : World} (nq : Nat) : Kept Q w (w.drewN nq) := fun _ _ _ _ h => h
theorem varN_drews {w : World} {g nq : Nat} {vs : List Value} (h : VarN w g vs) : VarN (w.drewN nq) g vs := h
theorem thQ_und {Q : Nat → Prop} {w : World} {fa la : Option Addr} {fn fc ln lc : Nat} {t : Thr} (h : ThQ Q w fa fn fc la ln lc t) : ThQ (fun b => Q b ∧ b < w.heap.size) w fa fn fc la ln lc t := ⟨h.fcap, vs_und h.fs, h.lcap, vs_und h.lf⟩
/-- behind so many calls: who is in them, and where from -/
structure LoopA (w : World) (u : Thr) (g k : Nat) (fv : Value) (wr : World) (l : List Int) (pc : Int) (T : Thr) (fa : Option Addr) (fc : Nat) (la : Option Addr) (ln lc : Nat) : Prop where
  hl : l.length = k
  pl : Places l
  hp : 0 ≤ pc ∧ pc ≤ 999
  hT : T = nestT u pc l
  x : VarN wr g [.int .i64 T.pc, .int .i64 (T.r 0), .int .i64 (T.r 1), .int .i64 (T.r 2), .int .i64 (T.r 3), .int .i64 (T.r 4), .int .i64 (T.r 5), .int .i64 (T.r 6), .int .i64 (T.r 7), .slice fa k fc, .int .i64 T.st, .int .i64 T.ft, .slice la ln lc]
  f : ThQ (fun b => b ≠ g ∧ fv.ownBlock ≠ some b) wr fa k fc la ln lc T
  o : wr.ownsRow (g + 1) 3 1 fv k (l.map (Value.int .i64))
  b : Below w.heap.size w wr
/-- behind so many comings back -/
structure LoopB (w : World) (u : Thr) (g k j : Nat) (l : List Int) (ra : Option Addr) (wr : World) (pc : Int) (T : Thr) (fa : Option Addr) (fc : Nat) (la : Option Addr) (ln lc : Nat) : Prop where
  hj : j ≤ k
  hp : 0 ≤ pc ∧ pc ≤ 1000
  hT : T = nestT u pc (l.take j)
  x : VarN wr g [.int .i64 T.pc, .int .i64 (T.r 0), .int .i64 (T.r 1), .int .i64 (T.r 2), .int .i64 (T.r 3), .int .i64 (T.r 4), .int .i64 (T.r 5), .int .i64 (T.r 6), .int .i64 (T.r 7), .slice fa j fc, .int .i64 T.st, .int .i64 T.ft, .slice la ln lc]
  f : ThQ (fun b => b ≠ g) wr fa j fc la ln lc T
  r : Vs repInt (fun b => b ≠ g) wr ra k l
  b : Below w.heap.size w wr
end Go.Proofs.Ytpdghgpmjadnnaa
