/- What the listed variables give a walk: Glob. -/
import Derived.Test.YthcogkcjmhjjmaaDoorCards
import Derived.Test.YthcogkcjmhjjmaaDoorAsB
import Derived.ProofKit
import Derived.Stop.LaidErr
import Derived.LaidMore
import Derived.Lay
namespace Go.Proofs.YthcogkcjmhjjmaaDoor
open Go.ChangeShapes Go.WideShapes Go.ChangeAt Go.RowKit
open Gen
set_option maxRecDepth 100000

theorem Tryd.own : ownKnob Tryd.prog.godebug = none := by kernel_rfl
theorem star : "*" ++ "errors.errorString" = "*errors.errorString" := by decide
theorem rowErr (u : TypeId) (h : Tryd.prog.typeName? 3 u = some "*errors.errorString") : u = 132 :=
  typeName_ptr_named (nm := "errors.errorString") (by rw [star]; kernel_rfl) (by kernel_rfl) (by decide) u (by rw [star]; exact h)
theorem cells9 : Tryd.prog.cellsOf 9 = 1 := by kernel_rfl
theorem cellsErr : Tryd.prog.cellsOf 134 = 1 := by kernel_rfl
theorem cellsOp : Tryd.prog.cellsOf 84 = 2 := by kernel_rfl
theorem cellsOps : Tryd.prog.cellsOf 85 = 54 := by kernel_rfl
theorem gSynT : (Tryd.prog.globals[3]?).map (·.type) = some 61 := by kernel_rfl
theorem gRngT : (Tryd.prog.globals[4]?).map (·.type) = some 61 := by kernel_rfl
theorem gPowT : (Tryd.prog.globals[2]?).map (·.type) = some 118 := by kernel_rfl
theorem gOpsT : (Tryd.prog.globals[0]?).map (·.type) = some 85 := by kernel_rfl
theorem cellsPow : Tryd.prog.cellsOf 118 = 20 := by kernel_rfl
theorem cellsU64 : Tryd.prog.cellsOf 100 = 1 := by kernel_rfl

theorem pow_data {H : Type} : (Rows.laid_internal_strconv_uint64pow10 : DataW H) = Lib.tabData .u64 Lib.pow10Tab := rfl
def opData {H : Type} (k : Nat) : DataW H := .agg [.lit (.string (opName.getD k [])), .lit (.string (opSign.getD k []))]
theorem ops_data {H : Type} : (Rows.laid_respite_asm_operations : DataW H) = .agg ((List.range 27).map opData) := rfl

/-- a row of two strings that is read -/
theorem row_cells {H : Type} {enc : TypeId × Value → H} {W : World} {base : Nat} {sp : Nat → Bool} {held : Bool} {fuel : Nat} {cs : List Value} {a b : Bs} {p : List MemPlace}
    (h : DataW.trod enc Tryd.prog W base sp held fuel 84 cs = some (.agg [.lit (.string a), .lit (.string b)], p)) : cs = [.string (str a), .string (str b)] := by
  obtain ⟨xs, n, rfl, hx, hl, hn, hf⟩ := DataW.trod_struct Tryd.underlying84 h
  have h0 : DataW.trod enc Tryd.prog W base sp held n 9 ((cs.drop 0).take (Tryd.prog.cellsOf 9)) = xs[0]? := hf 0 _ rfl
  have h1 : DataW.trod enc Tryd.prog W base sp held n 9 ((cs.drop 1).take (Tryd.prog.cellsOf 9)) = xs[1]? := hf 1 _ rfl
  rw [cellsOp] at hl
  match cs, hl with
  | [c0, c1], _ =>
  simp only [cells9, List.drop_zero, List.drop_succ_cons, List.take_succ_cons, List.take_zero] at h0 h1
  match xs, hn, hx, h0, h1 with
  | [x0, x1], _, hx, h0, h1 =>
  simp only [List.map_cons, List.map_nil, Prod.mk.injEq, DataW.agg.injEq, List.cons.injEq] at hx
  obtain ⟨s0, e0, f0, -⟩ := DataW.trod_string Tryd.underlying9 h0
  obtain ⟨s1, e1, f1, -⟩ := DataW.trod_string Tryd.underlying9 h1
  subst f0 f1
  obtain ⟨⟨g0, g1, -⟩, -⟩ := hx
  injection g0 with g0
  injection g0 with g0
  injection g1 with g1
  injection g1 with g1
  injection e0 with e0
  injection e1 with e1
  rw [e0, e1, g0, g1, show str s0.data.toList = s0 from bs_data s0, show str s1.data.toList = s1 from bs_data s1]
theorem ops_cells {H : Type} {enc : TypeId × Value → H} {W : World} {base : Nat} {sp : Nat → Bool} {held : Bool} {fuel : Nat} {cs : List Value} {p : List MemPlace}
    (h : DataW.trod enc Tryd.prog W base sp held fuel 85 cs = some (Rows.laid_respite_asm_operations, p)) : cs = opCells := by
  rw [ops_data] at h
  obtain ⟨xs, n, rfl, hx, hl, hn, hf⟩ := DataW.trod_array Tryd.underlying85 h
  rw [cellsOps] at hl
  rw [cellsOp] at hf
  simp only [Prod.mk.injEq, DataW.agg.injEq] at hx
  have hrow : ∀ i, i < 27 → (cs.drop (i * 2)).take 2 = [.string (str (opName.getD i [])), .string (str (opSign.getD i []))] := by
    intro i hi
    have h1 := hf i hi
    have h2 : (xs.map (·.1))[i]? = some (opData i) := by rw [← hx.1]; simp [hi]
    rw [List.getElem?_map, Option.map_eq_some_iff] at h2
    obtain ⟨⟨d, q⟩, h3, h4⟩ := h2
    rw [h3] at h1
    dsimp only at h4
    subst h4
    exact row_cells h1
  have hol : opCells.length = 54 := by kernel_rfl
  have hor : ∀ i, i < 27 → (opCells.drop (i * 2)).take 2 = [.string (str (opName.getD i [])), .string (str (opSign.getD i []))] := by
    intro k hk
    have h27 : k = 0 ∨ k = 1 ∨ k = 2 ∨ k = 3 ∨ k = 4 ∨ k = 5 ∨ k = 6 ∨ k = 7 ∨ k = 8 ∨ k = 9 ∨ k = 10 ∨ k = 11 ∨ k = 12 ∨ k = 13 ∨ k = 14 ∨ k = 15 ∨ k = 16 ∨ k = 17 ∨ k = 18 ∨ k = 19 ∨ k = 20 ∨ k = 21 ∨ k = 22 ∨ k = 23 ∨ k = 24 ∨ k = 25 ∨ k = 26 := by omega
    rcases h27 with rfl | rfl | rfl | rfl | rfl | rfl | rfl | rfl | rfl | rfl | rfl | rfl | rfl | rfl | rfl | rfl | rfl | rfl | rfl | rfl | rfl | rfl | rfl | rfl | rfl | rfl | rfl <;> rfl
  apply List.ext_getElem?
  intro j
  by_cases hj : j < 54
  · have h1 := hrow (j / 2) (by omega)
    rw [← hor (j / 2) (by omega)] at h1
    have h2 := congrArg (·[j % 2]?) h1
    simp only [List.getElem?_take, List.getElem?_drop] at h2
    rw [if_pos (by omega), if_pos (by omega), show j / 2 * 2 + j % 2 = j by omega] at h2
    exact h2
  · rw [List.getElem?_eq_none (by omega), List.getElem?_eq_none (by omega)]

theorem mlen_of_shape {w : World} (h : w.ShapedOpen Tryd.prog) : ∃ m, w.cell? ⟨1, 0, none⟩ = some (.int .i64 m) := by
  obtain ⟨cs, hh, hs, hr⟩ := h.1 1 #[.int .i64 0] 3 (of_decide_eq_true (by kernel_rfl)) (by kernel_rfl)
  obtain ⟨ts, hts, _, hall⟩ := hr (by kernel_rfl)
  rw [show Tryd.prog.cellTypes Tryd.prog.depth 3 = some [3] by kernel_rfl] at hts
  cases hts
  have h1 : 0 < cs.size := by rw [hs]; decide
  obtain ⟨u, hu', hok⟩ := hall 0 cs[0] (by simp [h1])
  have : u = 3 := by simpa using hu'.symm
  subst this
  have hcell : w.cell? ⟨1, 0, none⟩ = some cs[0] := by simp [World.cell?, hh, h1]
  rw [hcell]
  unfold Cell.ok at hok
  rw [Tryd.underlying3] at hok
  cases hv : cs[0] <;> rw [hv] at hok <;> first | (simp at hok; done) | (simp at hok; obtain ⟨rfl, _⟩ := hok; exact ⟨_, rfl⟩)
theorem size_of_shape {w : World} (h : w.ShapedOpen Tryd.prog) : 9 ≤ w.heap.size := by
  obtain ⟨o, ho⟩ : ∃ o, ((begin Tryd.prog (fun _ _ => 0) default).world.heap[8]?).bind Obj.row? = some o := Option.isSome_iff_exists.1 (by kernel_rfl)
  obtain ⟨cs, hh, -⟩ := h.1 8 o.1 o.2 (of_decide_eq_true (by kernel_rfl)) ho
  have := (Array.getElem?_eq_some_iff.1 hh).1
  omega
theorem glob_of_laid {W : World} (hs : W.ShapedOpen Tryd.prog) (hL : laidMetH Tryd.prog Rows.asmJoinsRow.laid W) : Glob W := by
  rw [MakeChecks.laidMetH_plain _ _ _ (by kernel_rfl)] at hL
  have hP := hL.tail.tail
  have hR := hP.tail.tail
  have hS := hR.tail
  obtain ⟨a0, s0, hv0, -⟩ := laid_sentinel hR Tryd.gRng gRngT Tryd.underlying61 rowErr Tryd.underlying132 Tryd.underlying134 rfl rfl Tryd.underlying9 cellsErr cells9
  obtain ⟨a1, s1, hv1, -⟩ := laid_sentinel hS Tryd.gSyn gSynT Tryd.underlying61 rowErr Tryd.underlying132 Tryd.underlying134 rfl rfl Tryd.underlying9 cellsErr cells9
  rw [pow_data] at hP
  have hT := Lib.tabIs_of_head Tryd.gPow gPowT Tryd.underlying118 Tryd.underlying100 cellsU64 cellsPow hP
  obtain ⟨ps, ⟨g, t, cs, fuel, p, q, hg, ht, hv, hd, -, -⟩, -⟩ := hS.tail
  obtain rfl := Option.some.inj (Tryd.gOps.symm.trans hg)
  obtain rfl := Option.some.inj (gOpsT.symm.trans ht)
  have hc := ops_cells hd
  exact ⟨size_of_shape hs, mlen_of_shape hs, ⟨_, _, hv1⟩, ⟨_, _, hv0⟩, hT, by rw [hv, ← hc]⟩
end Go.Proofs.YthcogkcjmhjjmaaDoor
