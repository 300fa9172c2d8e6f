/- Arguments that are threads, or arrays of eight integers, opened to their cells. -/
import Derived.Test.YtjddflnecfokaaaFrA
import Derived.Lib.SmallJoins
namespace Go.Proofs.Ytjddflnecfokaaa
open Go.ChangeShapes Go.WideShapes Go.ChangeAt Go.RowKit
open Gen

section
variable {H : Type} {enc : TypeId × Value → H} {w : World} {base : Nat} {spare : Nat → Bool} {held : Bool}
theorem Try.cellsOI3 : Try.prog.cellsOf 3 = 1 := by kernel_rfl
theorem open_arr {n : Nat} {t : TypeId} (ht : Try.prog.underlying t = some (.array n 3)) {fuel : Nat} {cs : List Value} {x : DataW H × List MemPlace} (h : DataW.trod enc Try.prog w base spare held fuel t cs = some x) :
    ∃ r : Nat → Int, ∀ i, i < n → cs[i]? = some (.int .i64 (r i)) := by
  obtain ⟨xs, m, _, _, hl, hlen, hf⟩ := DataW.trod_array ht h
  have each : ∀ i, i < n → ∃ z : Int, cs[i]? = some (.int .i64 z) := by
   intro i hi
   have h1 := hf i hi
   rw [List.getElem?_eq_getElem (by omega)] at h1
   obtain ⟨z, e, _, _⟩ := DataW.trod_int Try.underlying3 h1
   rw [Try.cellsOI3, Nat.mul_one] at e
   refine ⟨z, ?_⟩
   have h2 : ((cs.drop i).take 1)[0]? = some (.int .i64 z) := by rw [e]; rfl
   simpa using h2
  exact Go.Deep.choose_lt each
theorem opens_frame : Opens repFr (fun _ => True) enc Try.prog w base spare held 58 := by
  intro fuel cs x h
  obtain ⟨y0, y1, n, _, hl, t0, t1⟩ := trod_struct2 Try.underlying58 h
  rw [show Try.prog.cellsOf 58 = 5 by kernel_rfl] at hl
  have k4 : Try.prog.cellsOf 56 = 4 := by kernel_rfl
  match cs, hl with
  | [c0, c1, c2, c3, c4], _ =>
    obtain ⟨z0, e0, _, _⟩ := DataW.trod_int Try.underlying3 t0
    obtain ⟨r, hr⟩ := open_arr Try.underlying56 t1
    rw [Try.cellsOI3] at e0
    simp only [k4] at hr
    have r0 := hr 0 (by omega)
    have r1 := hr 1 (by omega)
    have r2 := hr 2 (by omega)
    have r3 := hr 3 (by omega)
    simp at e0 r0 r1 r2 r3
    subst e0 r0 r1 r2 r3
    exact ⟨(z0, r 0, r 1, r 2, r 3), rfl, trivial⟩
set_option maxRecDepth 100000 in
theorem open_thread {q : Reach} {b0 : Nat} {v : Value} {d : DataW H} {p : List MemPlace} (hv : Value.okWide Try.prog w q b0 27 v) (h : DataW.Trod enc Try.prog w base spare held 27 v d p) :
    ∃ (t : Thr) (fa la : Option Addr) (fn fc ln lc : Nat), v = .agg #[.int .i64 t.pc, .int .i64 (t.r 0), .int .i64 (t.r 1), .int .i64 (t.r 2), .int .i64 (t.r 3), .int .i64 (t.r 4), .int .i64 (t.r 5), .int .i64 (t.r 6), .int .i64 (t.r 7), .slice fa fn fc, .int .i64 t.st, .int .i64 t.ft, .slice la ln lc] ∧ ThF w fa fn fc la ln lc t := by
  obtain ⟨cs, rfl, hsz⟩ := okWide_struct Try.underlying27 hv
  obtain ⟨fuel, hf⟩ := h
  obtain ⟨xs, n, _, _, hl, hlen, hg⟩ := DataW.trod_struct Try.underlying27 hf
  rw [show Try.prog.cellsOf 27 = 13 by kernel_rfl] at hsz
  have k8 : Try.prog.cellsOf 22 = 8 := by kernel_rfl
  have kf : Try.prog.cellsOf 23 = 1 := by kernel_rfl
  have ki : Try.prog.cellsOf 25 = 1 := by kernel_rfl
  have ke : Try.prog.cellsOf 24 = 1 := by kernel_rfl
  obtain ⟨l, rfl⟩ : ∃ l : List Value, cs = l.toArray := ⟨cs.toList, by simp⟩
  have hl13 : l.length = 13 := by simpa using hsz
  have t0 := hg 0 _ rfl
  have t1 := hg 1 _ rfl
  have t2 := hg 2 _ rfl
  have t3 := hg 3 _ rfl
  have t4 := hg 4 _ rfl
  have t5 := hg 5 _ rfl
  match xs, hlen, l, hl13 with
  | [y0, y1, y2, y3, y4, y5], _, [c0, c1, c2, c3, c4, c5, c6, c7, c8, c9, c10, c11, c12], _ =>
    simp only [Value.cells] at t0 t1 t2 t3 t4 t5
    obtain ⟨z0, e0, _, _⟩ := DataW.trod_int Try.underlying3 t0
    obtain ⟨r, hr⟩ := open_arr Try.underlying22 t1
    obtain ⟨fa, fn, fc, fs, e2, q1, q2, q3, q4, _⟩ := opens_slice Try.underlying23 (by kernel_rfl) opens_frame _ _ _ t2
    obtain ⟨z3, e3, _, _⟩ := DataW.trod_int Try.underlying3 t3
    obtain ⟨z4, e4, _, _⟩ := DataW.trod_int Try.underlying24 t4
    obtain ⟨la, ln, lc, lf, e5, p1, p2, p3, p4, _⟩ := opens_slice (r := repInt) Try.underlying25 (by kernel_rfl) (opens_int Try.underlying3) _ _ _ t5
    have r0 := hr 0 (by omega)
    have r1 := hr 1 (by omega)
    have r2 := hr 2 (by omega)
    have r3 := hr 3 (by omega)
    have r4 := hr 4 (by omega)
    have r5 := hr 5 (by omega)
    have r6 := hr 6 (by omega)
    have r7 := hr 7 (by omega)
    simp [Try.cellsOI3, k8, kf, ki, ke] at e0 r0 r1 r2 r3 r4 r5 r6 r7 e2 e3 e4 e5
    subst e0 r0 r1 r2 r3 r4 r5 r6 r7 e2 e3 e4 e5
    exact ⟨⟨z0, r, fs, z3, z4, lf⟩, fa, la, fn, fc, ln, lc, rfl, ⟨⟨q1, q2, q3⟩, q4, ⟨p1, p2, p3⟩, p4⟩⟩
set_option maxRecDepth 100000 in
theorem open_regs {q : Reach} {b0 : Nat} {v : Value} {d : DataW H} {p : List MemPlace} (hv : Value.okWide Try.prog w q b0 22 v) (h : DataW.Trod enc Try.prog w base spare held 22 v d p) :
    ∃ r : Nat → Int, v = .agg #[.int .i64 (r 0), .int .i64 (r 1), .int .i64 (r 2), .int .i64 (r 3), .int .i64 (r 4), .int .i64 (r 5), .int .i64 (r 6), .int .i64 (r 7)] := by
  simp only [Value.okWide, Try.underlying22] at hv
  obtain ⟨cs, rfl, hsz, _⟩ := hv
  obtain ⟨fuel, hf⟩ := h
  obtain ⟨r, hr⟩ := open_arr Try.underlying22 hf
  rw [show Try.prog.cellsOf 22 = 8 by kernel_rfl] at hsz
  obtain ⟨l, rfl⟩ : ∃ l : List Value, cs = l.toArray := ⟨cs.toList, by simp⟩
  have hl8 : l.length = 8 := by simpa using hsz
  match l, hl8 with
  | [c1, c2, c3, c4, c5, c6, c7, c8], _ =>
    have r0 := hr 0 (by omega)
    have r1 := hr 1 (by omega)
    have r2 := hr 2 (by omega)
    have r3 := hr 3 (by omega)
    have r4 := hr 4 (by omega)
    have r5 := hr 5 (by omega)
    have r6 := hr 6 (by omega)
    have r7 := hr 7 (by omega)
    simp [Value.cells] at r0 r1 r2 r3 r4 r5 r6 r7
    subst r0 r1 r2 r3 r4 r5 r6 r7
    exact ⟨r, rfl⟩
theorem open_vints {q : Reach} {b0 : Nat} {v : Value} {d : DataW H} {p : List MemPlace} (_ : Value.okWide Try.prog w q b0 25 v) (h : DataW.Trod enc Try.prog w base spare held 25 v d p) :
    ∃ (a : Option Addr) (n c : Nat) (zs : List Int), v.cells.toList = [.slice a n c] ∧ IsVs repInt (fun z => (Lit.int .i64 z).wf = true) w a n c zs := by
  obtain ⟨fuel, hf⟩ := h
  exact opens_slice (r := repInt) Try.underlying25 (by kernel_rfl) (opens_int Try.underlying3) _ _ _ hf
end
end Go.Proofs.Ytjddflnecfokaaa
