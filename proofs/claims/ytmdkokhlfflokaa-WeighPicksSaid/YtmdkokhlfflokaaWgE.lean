/- What package weigh must answer, in plain words; layer 10's own small functions over it. -/
import Derived.Test.YtmdkokhlfflokaaWgD
import Derived.Test.YtmdkokhlfflokaaRefB
namespace Go.Proofs.Ytmdkokhlfflokaa
open Go.ChangeShapes Go.WideShapes Go.ChangeAt Go.RowKit
open Gen
def pkE (L : Nat) (ws : List Nat) (n : Int) : Int := if 8 < L ∨ n < 0 ∨ 1000 < n then 2 else if 0 < n ∧ Fl.someB ws = false then 8 else 0
def pkL (L : Nat) (ws : List Nat) (n : Int) : List Int := if pkE L ws n = 0 then natsI (Fl.picksF ws n.toNat).1 else []
def shE (ps : List Int) (m : Int) : Int := if m < 0 ∨ 8 < m then 2 else if ps.all (fun p => decide (0 ≤ p ∧ p < m)) = true then 0 else 3
def shL (ps : List Int) (m : Int) : List Int := if shE ps m = 0 then sharesF ps m.toNat else []
def actsF (ps : List Int) : List (Int × Int) := ps.flatMap fun p => (0, p) :: (1, p) :: []
/-- a list of integers and an error -/
def ListE (l : List Int) (E : Int) (w : World) (e : Ending) (w' : World) : Prop := ∃ a c, e = .returned (.tuple #[.slice a l.length c, .int .i64 E]) ∧ l.length ≤ c ∧ c ≤ 9223372036854775807 ∧ (a = none → c = 0) ∧ Vs repInt Any w' a l.length l ∧ Below w.heap.size w w'
/-- package weigh answers as the document says -/
structure WeighOk : Prop where
  less : ∀ (x y : Nat) (w : World), FlWf x → FlWf y → Calls Try.prog 10 #[.float .f64 x, .float .f64 y] w (BoolPost (Fl.lessF x y) w)
  least : ∀ (a : Option Addr) (n c : Nat) (zs : List Nat) (w : World), Vs repFl Any w a n zs → (∀ z ∈ zs, FlWf z) → n ≤ 1000 → n ≤ c → c ≤ 9223372036854775807 → (a = none → c = 0) → Calls Try.prog 8 #[.slice a n c] w (fun e w' => e = .returned (.tuple #[.int .i64 (if n = 0 then 0 else (Fl.leastL zs n : Nat)), .int .i64 (if n = 0 then 8 else 0)]) ∧ Below w.heap.size w w')
  picks : ∀ (a : Option Addr) (n c : Nat) (ws : List Nat) (m : Int) (w : World), Vs repFl Any w a n ws → (∀ z ∈ ws, FlWf z) → n ≤ 1000 → n ≤ c → c ≤ 9223372036854775807 → (a = none → c = 0) → Calls Try.prog 13 #[.slice a n c, .int .i64 m] w (ListE (pkL n ws m) (pkE n ws m) w)
  shares : ∀ (a : Option Addr) (n c : Nat) (ps : List Int) (m : Int) (w : World), Vs repInt Any w a n ps → n ≤ 1000 → n ≤ c → c ≤ 9223372036854775807 → (a = none → c = 0) → Calls Try.prog 14 #[.slice a n c, .int .i64 m] w (ListE (shL ps m) (shE ps m) w)
  acts : ∀ (a : Option Addr) (n c : Nat) (ps : List Int) (w : World), Vs repInt Any w a n ps → n ≤ 1000 → n ≤ c → c ≤ 9223372036854775807 → (a = none → c = 0) → Calls Try.prog 15 #[.slice a n c] w (fun e w' => ∃ b d, e = .returned (.slice b (2 * n) d) ∧ 2 * n ≤ d ∧ d ≤ 9223372036854775807 ∧ Vs repInt2 Any w' b (2 * n) (actsF ps) ∧ Below w.heap.size w w')
theorem alive_some : Fl.someB [13830554455654793216, 4613937818241073152] = true := by decide
theorem alive_picks : (Fl.picksF [13830554455654793216, 4613937818241073152] 2).1 = [1, 1] := by
  have key : ∀ ps : List Nat, Fl.leastTo [13830554455654793216, 4613937818241073152] ps 2 = some 1 := by
    intro ps
    rw [Fl.leastTo_succ, Fl.leastTo_succ]
    have h0 : Fl.pickF [13830554455654793216, 4613937818241073152] ps (Fl.leastTo [13830554455654793216, 4613937818241073152] ps 0) 0 = none := pick_no (by decide) _
    rw [h0]
    exact pick_first (by decide)
  have e : [13830554455654793216, 4613937818241073152].length = 2 := rfl
  rw [Fl.picksF, e, key, Fl.picksF, e, key]; rfl

set_option maxRecDepth 100000 in
set_option maxHeartbeats 4000000 in
theorem alive10_any (W : WeighOk) (w : World) : Calls Try.prog 9 #[] w (BoolPost true w) := by
  obtain ⟨W1, hW1⟩ : ∃ X, X = w.alloc (Obj.cells #[.float .f64 13830554455654793216, .float .f64 4613937818241073152] 23) := ⟨_, rfl⟩
  have hb1 : Below w.heap.size w W1 := by rw [hW1]; go_grown
  have X := varN_new (w := w) [.float .f64 13830554455654793216, .float .f64 4613937818241073152] (t := 23) w.heap.size rfl
  have S : Vs repFl Any W1 (some ⟨w.heap.size, 0, none⟩) 2 [13830554455654793216, 4613937818241073152] := by
    refine ⟨rfl, .inr ⟨w.heap.size, 0, rfl, trivial, fun i y hi => ?_⟩⟩
    rw [hW1]
    match i, hi with
    | 0, hi => cases hi; exact ⟨_, rfl, fun j v hj => by match j, hj with | 0, hj => cases hj; exact (X 0 _ rfl).1⟩
    | 1, hi => cases hi; exact ⟨_, rfl, fun j v hj => by match j, hj with | 0, hj => cases hj; exact (X 1 _ rfl).1⟩
  have h0 := W.picks (some ⟨w.heap.size, 0, none⟩) 2 2 [13830554455654793216, 4613937818241073152] 2 W1 S (by intro z hz; simp at hz; rcases hz with rfl | rfl <;> unfold FlWf <;> decide) (by decide) (by decide) (by decide) (fun e => by cases e)
  have e1 : pkE 2 [13830554455654793216, 4613937818241073152] 2 = 0 := by decide
  have e2 : pkL 2 [13830554455654793216, 4613937818241073152] 2 = [1, 1] := by
    rw [pkL, e1, if_pos rfl, show (2 : Int).toNat = 2 from rfl, alive_picks]; rfl
  rw [e1, e2] at h0
  have HH := Lib.hid h0
  have HB := Lib.hid hb1
  have HW := Lib.hid hW1
  clear h0 e1 e2 S X hb1 hW1 W
  go_enter Try.func9, Try.ntmps9
  go_wp2_with fail
  rw [← HW.out]
  refine HH.out.mono ?_
  rintro e w2 ⟨a, c, rfl, h1, h2, h3, V, hb2⟩
  obtain ⟨b, o, z, rfl, hz, -, t0⟩ := vs_at V (i := 0) (by decide)
  obtain ⟨_, _, z2, e2, hz2, -, t1⟩ := vs_at V (i := 1) (by decide)
  cases e2
  cases hz
  cases hz2
  have g0 := at_int t0
  have g1 := at_int t1
  rw [show repInt.k = 1 from rfl] at g0 g1
  simp only [Nat.zero_mul, Nat.one_mul, Nat.add_zero] at g0 g1
  have HB2 := Lib.hid (HB.out.trans (hb2.mono HB.out.size))
  clear t0 t1 V hb2 h1 h2 h3
  go_wp2
  go_ret
  exact boolPost_mk rfl HB2.out
end Go.Proofs.Ytmdkokhlfflokaa
