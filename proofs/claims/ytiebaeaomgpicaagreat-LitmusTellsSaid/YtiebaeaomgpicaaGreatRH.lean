/- RcH, RcL, RcM, put together. -/
import Derived.Test.YtiebaeaomgpicaaGreatRcG
import Derived.Test.YtiebaeaomgpicaaGreatRfY
import Derived.Test.YtiebaeaomgpicaaGreatRfZ
import Derived.Test.YtiebaeaomgpicaaGreatMR
import Derived.Test.YtiebaeaomgpicaaGreatN1
import Derived.Test.YtiebaeaomgpicaaGreatRcD
/- Contracts of package respiteref04: move. -/
namespace Go.Proofs.YtiebaeaomgpicaaGreat
open Go.ChangeShapes Go.WideShapes Go.ChangeAt Go.RowKit
open Gen
/-- a stage and whether it could be moved -/
def MovePost (ts : List (List Mv)) (Q : Nat → Prop) (s : St) (j : Nat) (w : World) (e : Ending) (w' : World) : Prop :=
  ∃ (a : Option Addr) (n c : Nat) (a' : Option Addr) (n' c' : Nat) (D : Int) (q : Option Addr) (l d : Nat) (p : Option Addr) (np pc : Nat) (r : Option Addr) (nr rc : Nat) (ok : Bool), e = .returned (.tuple #[.agg #[.slice a n c, .slice a' n' c', .int .i64 D, .slice q l d, .slice p np pc, .slice r nr rc], .bool ok]) ∧ (match s.l j with | [] => ok = false | m :: rest => ok = (moveS (leftS s j rest) j m).2 ∧ (ok = true → D = (moveS (leftS s j rest) j m).1.D ∧ RSt ts Q w' a a' q p r n n' l np nr (moveS (leftS s j rest) j m).1)) ∧ Below w.heap.size w w'
theorem atS_at (ts : List (List Mv)) (s : St) {j : Nat} (hj : j < ts.length) : (atS ts s)[j]? = some (((ts.getD j []).length : Int) - ((s.l j).length : Int)) := by
  simp [atS, hj]

set_option maxRecDepth 100000 in
set_option maxHeartbeats 8000000 in
theorem refMove_none (W D : Int) (ts : List (List Mv)) (Q : Nat → Prop) (ql : Option Addr) (dl : Nat) (a a' q p r : Option Addr) (n c n' c' l d np pc nr rc : Nat) (s : St) (j : Nat) (w : World) (V : Vs (repSlice repInt3) Any w ql ts.length ts) (S : RSt ts Q w a a' q p r n n' l np nr s) (hj : j < ts.length) (h0 : s.l j = []) :
    Calls Tryz.prog 27 #[.agg #[.int .i64 W, .int .i64 D, .slice ql ts.length dl], .agg #[.slice a n c, .slice a' n' c', .int .i64 s.D, .slice q l d, .slice p np pc, .slice r nr rc], .int .i64 j] w (MovePost ts Q s j w) := by
  have hnp : (atS ts s).length = ts.length := by simp [atS]
  obtain rfl : np = ts.length := by rw [← S.at_.1, hnp]
  obtain ⟨L, hL⟩ : ∃ L, ts.length = L := ⟨_, rfl⟩
  obtain ⟨DD, hDD⟩ : ∃ D, s.D = D := ⟨_, rfl⟩
  obtain ⟨W0, hW0⟩ : ∃ X, X = ((w.alloc (Obj.cells #[.int .i64 W, .int .i64 D, .slice ql L dl] 25)).alloc (Obj.cells #[.slice a n c, .slice a' n' c', .int .i64 DD, .slice q l d, .slice p L pc, .slice r nr rc] 64)).alloc (Obj.cells #[.slice none 0 0, .slice none 0 0, .int .i64 0, .slice none 0 0, .slice none 0 0, .slice none 0 0] 64) := ⟨_, rfl⟩
  have hb0 : Below w.heap.size w W0 := by rw [hW0]; go_grown
  have X3 : VarN W0 w.heap.size [.int .i64 W, .int .i64 D, .slice ql L dl] := by rw [hW0]; exact varN_A _ (varN_A _ (varN_new [.int .i64 W, .int .i64 D, .slice ql L dl] _ rfl))
  have X4 : VarN W0 (w.heap.size + 1) [.slice a n c, .slice a' n' c', .int .i64 DD, .slice q l d, .slice p L pc, .slice r nr rc] := by rw [hW0]; exact varN_A _ (varN_new [.slice a n c, .slice a' n' c', .int .i64 DD, .slice q l d, .slice p L pc, .slice r nr rc] _ (by simp))
  have X6 : VarN W0 (w.heap.size + 1 + 1) [.slice none 0 0, .slice none 0 0, .int .i64 0, .slice none 0 0, .slice none 0 0, .slice none 0 0] := by rw [hW0]; exact varN_new [.slice none 0 0, .slice none 0 0, .int .i64 0, .slice none 0 0, .slice none 0 0, .slice none 0 0] _ (by simp)
  rw [hL] at V S hj ⊢
  rw [hDD]
  obtain ⟨ab, ao, z, rfl, hz, g0⟩ := int_atR (vs_B hb0 (vs_any S.at_)) hj
  rw [atS_at ts s (by omega), h0] at hz
  obtain ⟨vb, vo, t, pt, ct, rfl, ht, g1, -, -, -, -⟩ := moves_at (vs_B hb0 V) hj
  have htd : ts.getD j [] = t := by rw [List.getD_eq_getElem?_getD, ht]; rfl
  rw [htd] at hz
  obtain ⟨tl, htl⟩ : ∃ tl, t.length = tl := ⟨_, rfl⟩
  rw [htl] at hz g1
  obtain rfl : (tl : Int) = z := by simpa using hz
  obtain ⟨x4, -⟩ := X4 4 _ rfl
  obtain ⟨x2, -⟩ := X3 2 _ rfl
  have HB := Lib.hid hb0
  have HX4 := Lib.hid X4
  have HX6 := Lib.hid X6
  have HW := Lib.hid hW0
  have H0 := Lib.hid h0
  have i1 : (0 : Int) ≤ j := by omega
  have i2 : (j : Int) < L := by omega
  have i3 : (tl : Int) ≤ tl := Int.le_refl _
  clear hb0 X3 X4 X6 hW0 V S hz ht htd htl hnp h0 hDD
  go_enter Tryz.func27, Tryz.ntmps27
  go_upto_region 1 with fail
  rw [← HW.out]
  go_region
  obtain ⟨y0, -⟩ := HX4.out 0 _ rfl
  obtain ⟨y1, -⟩ := HX4.out 1 _ rfl
  obtain ⟨y2, -⟩ := HX4.out 2 _ rfl
  obtain ⟨y3, -⟩ := HX4.out 3 _ rfl
  obtain ⟨y5, -⟩ := HX4.out 5 _ rfl
  obtain ⟨r0, f0⟩ := HX6.out 0 _ rfl
  obtain ⟨r1, f1⟩ := HX6.out 1 _ rfl
  obtain ⟨r2, f2⟩ := HX6.out 2 _ rfl
  obtain ⟨r3, f3⟩ := HX6.out 3 _ rfl
  obtain ⟨r4, f4⟩ := HX6.out 4 _ rfl
  obtain ⟨r5, f5⟩ := HX6.out 5 _ rfl
  go_wp2
  refine bp_cell_tmp ⟨w.heap.size + 1 + 1, 0, none⟩ rfl rfl rfl (load_stateR _ _ _ _ _ _ _ _ (varN_D (varN_all (xs := [.slice a n c, .slice a' n' c', .int .i64 DD, .slice q l d, .slice (some ⟨ab, ao, none⟩) L pc, .slice r nr rc]) HX6.out rfl))) ?_
  refine ⟨a, n, c, a', n', c', DD, q, l, d, some ⟨ab, ao, none⟩, L, pc, r, nr, rc, false, rfl, ?_, (below_setN (g := w.heap.size + 1 + 1) (xs := [.slice a n c, .slice a' n' c', .int .i64 DD, .slice q l d, .slice (some ⟨ab, ao, none⟩) L pc, .slice r nr rc]) (k := 0) (by omega) HB.out).drew⟩
  rw [H0.out]
end Go.Proofs.YtiebaeaomgpicaaGreat
/- Contracts of package respiteref04: move, plain facts and a fence's. -/
namespace Go.Proofs.YtiebaeaomgpicaaGreat
open Go.ChangeShapes Go.WideShapes Go.ChangeAt Go.RowKit
open Gen
theorem atS_left (ts : List (List Mv)) (s : St) {j : Nat} {m : Mv} {r : List Mv} (hj : j < ts.length) (h0 : s.l j = m :: r) : atS ts (leftS s j r) = withZ (atS ts s) j (((ts.getD j []).length : Int) - ((s.l j).length : Int) + 1) := by
  rw [withZ_set]
  apply List.ext_getElem (by simp [atS])
  intro i h1 h2
  by_cases e : i = j
  · subst e
    simp [atS, leftS, upd, h0]
    omega
  · rw [List.getElem_set_ne (by omega)]
    simp [atS, leftS, upd, e]
theorem ntS_note (n : Nat) (s : St) (j : Nat) (v : Int) : ntS n (noteS s j v) = noteP (ntS n s) j v n := by
  apply List.ext_getElem (by simp [ntS, noteP])
  intro i h1 h2
  have hi : i < n := by simpa [ntS] using h1
  by_cases e : i = j
  · subst e
    simp [ntS, noteP, noteAt, noteS, upd, hi]
  · simp [ntS, noteP, noteAt, noteS, upd, hi, e]
theorem atS_withM (ts : List (List Mv)) (s : St) (a b : List Int) (D : Int) (c : List (List (Int × Int))) : atS ts (withM s a b D c) = atS ts s := rfl
theorem atS_note (ts : List (List Mv)) (s : St) (j : Nat) (v : Int) : atS ts (noteS s j v) = atS ts s := rfl
theorem ntS_left (n : Nat) (s : St) (j : Nat) (r : List Mv) : ntS n (leftS s j r) = ntS n s := rfl
theorem ntS_withM (n : Nat) (s : St) (a b : List Int) (D : Int) (c : List (List (Int × Int))) : ntS n (withM s a b D c) = ntS n s := rfl
/-- the lists of a stage that has moved on -/
theorem rst_left {ts : List (List Mv)} {Q : Nat → Prop} {w : World} {a a' q p r : Option Addr} {n n' l np nr : Nat} {s : St} {j : Nat} {m : Mv} {rest : List Mv} {z : Int} (hj : j < ts.length) (h0 : s.l j = m :: rest) (hz : z = ((ts.getD j []).length : Int) - ((s.l j).length : Int) + 1)
    (h1 : SlP Q w a n s.ws) (h2 : SlP Q w a' n' s.ts) (h3 : BlP Q w q l s.bs) (h4 : Vs repInt Q w p np (withZ (atS ts s) j z)) (h5 : Vs (repSlice repInt) Q w r nr (ntS ts.length s)) : RSt ts Q w a a' q p r n n' l np nr (leftS s j rest) :=
  ⟨h1, h2, h3, by rw [atS_left ts s hj h0, ← hz]; exact h4, h5⟩
end Go.Proofs.YtiebaeaomgpicaaGreat
/- Contracts of package respiteref04: move, plain facts on its ends. -/
namespace Go.Proofs.YtiebaeaomgpicaaGreat
open Go.ChangeShapes Go.WideShapes Go.ChangeAt Go.RowKit
open Gen
theorem vs_of_slP {Q : Nat → Prop} {w : World} {a : Option Addr} {n : Nat} {zs : List Int} (h : SlP Q w a n zs) : Vs repInt Q w a n zs := by
  refine ⟨h.1, h.2.imp id fun ⟨b, o, e, hq, r⟩ => ⟨b, o, e, hq, fun i y hy => ?_⟩⟩
  obtain ⟨hi, rfl⟩ := List.getElem?_eq_some_iff.1 hy
  have h1 := r i hi
  rw [List.getD_eq_getElem?_getD, hy] at h1
  rw [show repInt.k = 1 from rfl, Nat.mul_one]
  refine ⟨[.int .i64 zs[i]], rfl, fun j v hv => ?_⟩
  rcases j with _ | j
  · have e : Value.int .i64 zs[i] = v := by simpa using hv
    rw [← e]; simpa using h1
  · simp at hv
theorem movePost_mk {ts : List (List Mv)} {Q : Nat → Prop} {s : St} {j : Nat} {w w' : World} {m : Mv} {rest : List Mv} {a a' q p r : Option Addr} {n c n' c' l d np pc nr rc : Nat} {D : Int} {ok : Bool} (h0 : s.l j = m :: rest) (hok : ok = (moveS (leftS s j rest) j m).2)
    (hR : ok = true → D = (moveS (leftS s j rest) j m).1.D ∧ RSt ts Q w' a a' q p r n n' l np nr (moveS (leftS s j rest) j m).1) (hb : Below w.heap.size w w') :
    MovePost ts Q s j w (.returned (.tuple #[.agg #[.slice a n c, .slice a' n' c', .int .i64 D, .slice q l d, .slice p np pc, .slice r nr rc], .bool ok])) w' := by
  refine ⟨a, n, c, a', n', c', D, q, l, d, p, np, pc, r, nr, rc, ok, rfl, ?_, hb⟩
  rw [h0]
  exact ⟨hok, hR⟩
/-- a stage that has moved on, whatever its machine and what it noted -/
theorem rst_moved {ts : List (List Mv)} {Q : Nat → Prop} {w : World} {a a' q p r : Option Addr} {n n' l np nr : Nat} {s t : St} {j : Nat} {m : Mv} {rest : List Mv} {z : Int} (hj : j < ts.length) (h0 : s.l j = m :: rest) (hz : z = ((ts.getD j []).length : Int) - ((s.l j).length : Int) + 1) (ht : t.l = upd s.l j rest)
    (h1 : SlP Q w a n t.ws) (h2 : SlP Q w a' n' t.ts) (h3 : BlP Q w q l t.bs) (h4 : SlP Q w p np (withZ (atS ts s) j z)) (h5 : Vs (repSlice repInt) Q w r nr (ntS ts.length t)) : RSt ts Q w a a' q p r n n' l np nr t := by
  have e : atS ts t = atS ts (leftS s j rest) := by unfold atS; rw [ht]; rfl
  exact ⟨h1, h2, h3, by rw [e, atS_left ts s hj h0, ← hz]; exact vs_of_slP h4, h5⟩
/-- the blocks in which the lists of a stage lie that is moved: not the two variables -/
def MvQ (Q : Nat → Prop) (g : Nat) (b : Nat) : Prop := Q b ∧ b ≠ g + 1 ∧ b ≠ g + 1 + 1
theorem mvQ_new {Q : Nat → Prop} {w w' : World} (hQQ : ∀ b, w.heap.size ≤ b → Q b) (hs : w.heap.size + 1 + 1 < w'.heap.size) : ∀ b, w'.heap.size ≤ b → MvQ Q w.heap.size b := fun b hb => ⟨hQQ b (by omega), by omega, by omega⟩
/-- all lists of the stage as it was, in a later world -/
theorem rst_mv {ts : List (List Mv)} {Q : Nat → Prop} {w w' : World} {a a' q p r : Option Addr} {n n' l np nr : Nat} {s : St} (S : RSt ts (fun b => Q b ∧ b < w.heap.size) w a a' q p r n n' l np nr s) (hb : Below w.heap.size w w') : RSt ts (MvQ Q w.heap.size) w' a a' q p r n n' l np nr s :=
  rst_mono (fun b h => ⟨h.1, by have := h.2; omega, by have := h.2; omega⟩) (rst_keep (kept_low hb (fun b h => h.2)) S)
theorem mv_out {Q : Nat → Prop} {g : Nat} {w w' : World} (h : Gen.Kept (fun b => b ≠ g + 1 ∧ b ≠ g + 1 + 1) w w') : Gen.Kept (MvQ Q g) w w' := fun b o v hq hv => h b o v hq.2 hv
theorem p_mv {Q : Nat → Prop} {w w' : World} {p : Option Addr} {n : Nat} {zs : List Int} (hQQ : ∀ b, w.heap.size ≤ b → Q b) (h : SlP (fun b => b ≠ w.heap.size + 1 ∧ b ≠ w.heap.size + 1 + 1 ∧ w.heap.size ≤ b) w' p n zs) : SlP (MvQ Q w.heap.size) w' p n zs := slP_mono (fun b h => ⟨hQQ b h.2.2, h.1, h.2.1⟩) h
theorem boolE {e : Int} : ((e : Int) == 0) = decide (e = 0) := by rw [Bool.eq_iff_iff]; simp
end Go.Proofs.YtiebaeaomgpicaaGreat
