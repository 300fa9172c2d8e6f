/- Contracts of package frame: kept, restored; slices.Clone of frames and of integers. -/
import Derived.Test.YtjddflnecfokaaaFrB
import Derived.Deep.RegionLaw
namespace Go.Proofs.Ytjddflnecfokaaa
open Go.ChangeShapes Go.WideShapes Go.ChangeAt Go.RowKit
open Gen

theorem Try.sizeI3 : (Try.prog.info? 3).map (·.size) = some 1 := by kernel_rfl
theorem run_copy_ints (w : World) (b o dl dc b' o' sl sc : Nat) (cs vs us : List Value) (hn : cs.length = Nat.min sl dl) (hs : VarN w b' us) (hsrc : ∀ j v, cs[j]? = some v → us[o' + j]? = some v) (hd : VarN w b vs) (hl : o + cs.length ≤ vs.length) (h1 : ∀ v ∈ cs, v.oneCell' = true) :
    (Builtin.copy_ #[25, 25] 3 #[.slice (some ⟨b, o, none⟩) dl dc, .slice (some ⟨b', o', none⟩) sl sc]).run Try.prog w = .ok (goInt cs.length) (setN w b o cs) := by
  have hc : ∀ j, j < cs.length → ∃ v, vs[o + j]? = some v := fun j hj => ⟨vs[o + j], by simp [show o + j < vs.length by omega]⟩
  rw [← setN_cells]
  refine run_copy_cells (P := Try.prog) w 25 25 3 3 b o dl dc ⟨b', o', none⟩ sl sc cs Try.underlying25 Try.sizeI3 hn (fun j v hj => ?_) (fun j hj => ?_) (fun j hj => ?_) h1
  · rw [Gen.add_plain]; exact (hs _ _ (hsrc j v hj)).1
  · obtain ⟨v, hv⟩ := hc j hj; rw [(hd _ _ hv).1]; rfl
  · obtain ⟨v, hv⟩ := hc j hj; exact (hd _ _ hv).2

theorem load_arr4 (w : World) (g : Nat) (x0 x1 x2 x3 : Value) (h : VarN w g [x0, x1, x2, x3]) : (loadVar 56 ⟨g, 0, none⟩).run Try.prog w = .ok (.agg #[x0, x1, x2, x3]) w := by
  have k0 := (h 0 _ rfl).1
  have k1 := (h 1 _ rfl).1
  have k2 := (h 2 _ rfl).1
  have k3 := (h 3 _ rfl).1
  simp [go_sem, k0, k1, k2, k3]
theorem load_arr8 (w : World) (g : Nat) (x0 x1 x2 x3 x4 x5 x6 x7 : Value) (h : VarN w g [x0, x1, x2, x3, x4, x5, x6, x7]) : (loadVar 22 ⟨g, 0, none⟩).run Try.prog w = .ok (.agg #[x0, x1, x2, x3, x4, x5, x6, x7]) w := by
  have k0 := (h 0 _ rfl).1
  have k1 := (h 1 _ rfl).1
  have k2 := (h 2 _ rfl).1
  have k3 := (h 3 _ rfl).1
  have k4 := (h 4 _ rfl).1
  have k5 := (h 5 _ rfl).1
  have k6 := (h 6 _ rfl).1
  have k7 := (h 7 _ rfl).1
  simp [go_sem, k0, k1, k2, k3, k4, k5, k6, k7]

set_option maxRecDepth 100000 in
set_option maxHeartbeats 2000000 in
theorem kept_any (r : Nat → Int) (w : World) :
    Calls Try.prog 63 #[.agg #[.int .i64 (r 0), .int .i64 (r 1), .int .i64 (r 2), .int .i64 (r 3), .int .i64 (r 4), .int .i64 (r 5), .int .i64 (r 6), .int .i64 (r 7)]] w fun e w' => e = .returned (.agg #[.int .i64 (r 4), .int .i64 (r 5), .int .i64 (r 6), .int .i64 (r 7)]) ∧ Below w.heap.size w w' := by
  obtain ⟨W, hW⟩ : ∃ W, W = ((w.alloc (Obj.cells #[.int .i64 (r 0), .int .i64 (r 1), .int .i64 (r 2), .int .i64 (r 3), .int .i64 (r 4), .int .i64 (r 5), .int .i64 (r 6), .int .i64 (r 7)] 22)).alloc (Obj.cells #[.int .i64 0, .int .i64 0, .int .i64 0, .int .i64 0] 56)).alloc (Obj.cells #[.int .i64 0, .int .i64 0, .int .i64 0, .int .i64 0] 56) := ⟨_, rfl⟩
  have hB : Below w.heap.size w W := by rw [hW]; go_grown
  have X : VarN W w.heap.size [.int .i64 (r 0), .int .i64 (r 1), .int .i64 (r 2), .int .i64 (r 3), .int .i64 (r 4), .int .i64 (r 5), .int .i64 (r 6), .int .i64 (r 7)] := by rw [hW]; exact varN_A _ (varN_A _ (varN_new [.int .i64 (r 0), .int .i64 (r 1), .int .i64 (r 2), .int .i64 (r 3), .int .i64 (r 4), .int .i64 (r 5), .int .i64 (r 6), .int .i64 (r 7)] _ rfl))
  have R : VarN W (w.heap.size + 1) [.int .i64 0, .int .i64 0, .int .i64 0, .int .i64 0] := by rw [hW]; exact varN_A _ (varN_new [.int .i64 0, .int .i64 0, .int .i64 0, .int .i64 0] _ (by simp))
  have K : VarN W (w.heap.size + 2) [.int .i64 0, .int .i64 0, .int .i64 0, .int .i64 0] := by rw [hW]; exact varN_new [.int .i64 0, .int .i64 0, .int .i64 0, .int .i64 0] _ (by simp)
  have hrun := run_copy_ints W.drew (w.heap.size + 2) 0 4 4 w.heap.size 4 4 4 [.int .i64 (r 4), .int .i64 (r 5), .int .i64 (r 6), .int .i64 (r 7)] _ _ rfl (varN_D X) (fun j v hj => by
    match j, hj with
    | 0, h => exact h
    | 1, h => exact h
    | 2, h => exact h
    | 3, h => exact h
    | j + 4, h => simp at h) (varN_D K) (by simp) (by intro v hv; simp at hv; rcases hv with rfl | rfl | rfl | rfl <;> rfl)
  obtain ⟨Z, hZ⟩ : ∃ Z, Z = setN W.drew (w.heap.size + 2) 0 [.int .i64 (r 4), .int .i64 (r 5), .int .i64 (r 6), .int .i64 (r 7)] := ⟨_, rfl⟩
  have K2 : VarN Z (w.heap.size + 2) [.int .i64 (r 4), .int .i64 (r 5), .int .i64 (r 6), .int .i64 (r 7)] := by rw [hZ]; exact varN_all (varN_D K) rfl
  have R2 : VarN Z (w.heap.size + 1) [.int .i64 0, .int .i64 0, .int .i64 0, .int .i64 0] := by rw [hZ]; exact varN_others (by omega) (varN_D R)
  have B2 : Below w.heap.size w Z := by rw [hZ]; exact below_setN (by omega) hB.drew
  rw [← hZ] at hrun
  have HRUN := Lib.hid hrun
  have HW := Lib.hid hW
  have HK2 := Lib.hid K2
  have HR2 := Lib.hid R2
  have HB2 := Lib.hid B2
  clear hrun hZ hW K2 R2 B2 hB X R K
  go_enter Try.func63, Try.ntmps63
  go_upto_region 2 with fail
  rw [← HW.out]
  go_region_law (refine step_copy_run rfl (.tmp 4) (.tmp 5) 25 25 rfl _ _ _ _ (by simp [Act.eval, Act.put]) (by simp [Act.eval, Act.put]) HRUN.out ?_)
  have k0 := (HK2.out 0 _ rfl).1
  have k1 := (HK2.out 1 _ rfl).1
  have k2 := (HK2.out 2 _ rfl).1
  have k3 := (HK2.out 3 _ rfl).1
  obtain ⟨y0, g0⟩ := HR2.out 0 _ rfl
  obtain ⟨y1, g1⟩ := HR2.out 1 _ rfl
  obtain ⟨y2, g2⟩ := HR2.out 2 _ rfl
  obtain ⟨y3, g3⟩ := HR2.out 3 _ rfl
  go_wp2
  refine bp_cell ⟨w.heap.size + 1, 0, none⟩ rfl rfl rfl (load_arr4 _ _ _ _ _ _ (varN_all (xs := [.int .i64 (r 4), .int .i64 (r 5), .int .i64 (r 6), .int .i64 (r 7)]) HR2.out rfl)) ?_
  exact ⟨rfl, below_setN (g := w.heap.size + 1) (xs := [.int .i64 (r 4), .int .i64 (r 5), .int .i64 (r 6), .int .i64 (r 7)]) (k := 0) (by omega) HB2.out⟩

def resR (r : Nat → Int) (k0 k1 k2 k3 : Int) : Nat → Int := fun i => if i = 4 then k0 else if i = 5 then k1 else if i = 6 then k2 else if i = 7 then k3 else r i
set_option maxRecDepth 100000 in
set_option maxHeartbeats 2000000 in
theorem restored_any (r : Nat → Int) (x0 x1 x2 x3 : Int) (w : World) :
    Calls Try.prog 64 #[.agg #[.int .i64 (r 0), .int .i64 (r 1), .int .i64 (r 2), .int .i64 (r 3), .int .i64 (r 4), .int .i64 (r 5), .int .i64 (r 6), .int .i64 (r 7)], .agg #[.int .i64 x0, .int .i64 x1, .int .i64 x2, .int .i64 x3]] w fun e w' => e = .returned (.agg #[.int .i64 ((resR r x0 x1 x2 x3) 0), .int .i64 ((resR r x0 x1 x2 x3) 1), .int .i64 ((resR r x0 x1 x2 x3) 2), .int .i64 ((resR r x0 x1 x2 x3) 3), .int .i64 ((resR r x0 x1 x2 x3) 4), .int .i64 ((resR r x0 x1 x2 x3) 5), .int .i64 ((resR r x0 x1 x2 x3) 6), .int .i64 ((resR r x0 x1 x2 x3) 7)]) ∧ Below w.heap.size w w' := by
  obtain ⟨W, hW⟩ : ∃ W, W = ((w.alloc (Obj.cells #[.int .i64 (r 0), .int .i64 (r 1), .int .i64 (r 2), .int .i64 (r 3), .int .i64 (r 4), .int .i64 (r 5), .int .i64 (r 6), .int .i64 (r 7)] 22)).alloc (Obj.cells #[.int .i64 x0, .int .i64 x1, .int .i64 x2, .int .i64 x3] 56)).alloc (Obj.cells #[.int .i64 0, .int .i64 0, .int .i64 0, .int .i64 0, .int .i64 0, .int .i64 0, .int .i64 0, .int .i64 0] 22) := ⟨_, rfl⟩
  have hB : Below w.heap.size w W := by rw [hW]; go_grown
  have X : VarN W w.heap.size [.int .i64 (r 0), .int .i64 (r 1), .int .i64 (r 2), .int .i64 (r 3), .int .i64 (r 4), .int .i64 (r 5), .int .i64 (r 6), .int .i64 (r 7)] := by rw [hW]; exact varN_A _ (varN_A _ (varN_new [.int .i64 (r 0), .int .i64 (r 1), .int .i64 (r 2), .int .i64 (r 3), .int .i64 (r 4), .int .i64 (r 5), .int .i64 (r 6), .int .i64 (r 7)] _ rfl))
  have K : VarN W (w.heap.size + 1) [.int .i64 x0, .int .i64 x1, .int .i64 x2, .int .i64 x3] := by rw [hW]; exact varN_A _ (varN_new [.int .i64 x0, .int .i64 x1, .int .i64 x2, .int .i64 x3] _ (by simp))
  have R : VarN W (w.heap.size + 2) [.int .i64 0, .int .i64 0, .int .i64 0, .int .i64 0, .int .i64 0, .int .i64 0, .int .i64 0, .int .i64 0] := by rw [hW]; exact varN_new [.int .i64 0, .int .i64 0, .int .i64 0, .int .i64 0, .int .i64 0, .int .i64 0, .int .i64 0, .int .i64 0] _ (by simp)
  have hrun := run_copy_ints W.drew w.heap.size 4 4 4 (w.heap.size + 1) 0 4 4 [.int .i64 x0, .int .i64 x1, .int .i64 x2, .int .i64 x3] _ _ rfl (varN_D K) (fun j v hj => by
    match j, hj with
    | 0, h => exact h
    | 1, h => exact h
    | 2, h => exact h
    | 3, h => exact h
    | j + 4, h => simp at h) (varN_D X) (by simp) (by intro v hv; simp at hv; rcases hv with rfl | rfl | rfl | rfl <;> rfl)
  obtain ⟨Z, hZ⟩ : ∃ Z, Z = setN W.drew w.heap.size 4 [.int .i64 x0, .int .i64 x1, .int .i64 x2, .int .i64 x3] := ⟨_, rfl⟩
  have X2 : VarN Z w.heap.size [.int .i64 (r 0), .int .i64 (r 1), .int .i64 (r 2), .int .i64 (r 3), .int .i64 x0, .int .i64 x1, .int .i64 x2, .int .i64 x3] := by rw [hZ]; exact varN_setN (xs := [.int .i64 x0, .int .i64 x1, .int .i64 x2, .int .i64 x3]) 4 (varN_D X) (by simp)
  have R2 : VarN Z (w.heap.size + 2) [.int .i64 0, .int .i64 0, .int .i64 0, .int .i64 0, .int .i64 0, .int .i64 0, .int .i64 0, .int .i64 0] := by rw [hZ]; exact varN_others (by omega) (varN_D R)
  have B2 : Below w.heap.size w Z := by rw [hZ]; exact below_setN (by omega) hB.drew
  rw [← hZ] at hrun
  have HRUN := Lib.hid hrun
  have HW := Lib.hid hW
  have HX2 := Lib.hid X2
  have HR2 := Lib.hid R2
  have HB2 := Lib.hid B2
  clear hrun hZ hW X2 R2 B2 hB X R K
  go_enter Try.func64, Try.ntmps64
  go_upto_region 1 with fail
  rw [← HW.out]
  go_region_law (refine step_copy_run rfl (.tmp 5) (.tmp 6) 25 25 rfl _ _ _ _ (by simp [Act.eval, Act.put]) (by simp [Act.eval, Act.put]) HRUN.out ?_)
  have k0 := (HX2.out 0 _ rfl).1
  have k1 := (HX2.out 1 _ rfl).1
  have k2 := (HX2.out 2 _ rfl).1
  have k3 := (HX2.out 3 _ rfl).1
  have k4 := (HX2.out 4 _ rfl).1
  have k5 := (HX2.out 5 _ rfl).1
  have k6 := (HX2.out 6 _ rfl).1
  have k7 := (HX2.out 7 _ rfl).1
  obtain ⟨y0, g0⟩ := HR2.out 0 _ rfl
  obtain ⟨y1, g1⟩ := HR2.out 1 _ rfl
  obtain ⟨y2, g2⟩ := HR2.out 2 _ rfl
  obtain ⟨y3, g3⟩ := HR2.out 3 _ rfl
  obtain ⟨y4, g4⟩ := HR2.out 4 _ rfl
  obtain ⟨y5, g5⟩ := HR2.out 5 _ rfl
  obtain ⟨y6, g6⟩ := HR2.out 6 _ rfl
  obtain ⟨y7, g7⟩ := HR2.out 7 _ rfl
  go_wp2
  refine bp_cell ⟨w.heap.size + 2, 0, none⟩ rfl rfl rfl (load_arr8 _ _ _ _ _ _ _ _ _ _ (varN_all (xs := [.int .i64 (r 0), .int .i64 (r 1), .int .i64 (r 2), .int .i64 (r 3), .int .i64 x0, .int .i64 x1, .int .i64 x2, .int .i64 x3]) HR2.out rfl)) ?_
  exact ⟨rfl, below_setN (g := w.heap.size + 2) (xs := [.int .i64 (r 0), .int .i64 (r 1), .int .i64 (r 2), .int .i64 (r 3), .int .i64 x0, .int .i64 x1, .int .i64 x2, .int .i64 x3]) (k := 0) (by omega) HB2.out⟩

/-! ### slices.Clone -/
/-- what the call's own slice holds, and that it is its own -/
def OwnOf {α : Type} (T : TypeId) (r : Rep α) (f : α → List Value) (ys : List α) (w : World) (e : Ending) (w' : World) : Prop :=
  ∃ a c, e = .returned (.slice a ys.length c) ∧ Cap a ys.length c ∧ w'.ownsRow w.heap.size T r.k (.slice a ys.length c) ys.length (ys.flatMap f) ∧ Vs r (fun b => w.heap.size ≤ b) w' a ys.length ys ∧ Below w.heap.size w w'
theorem ownOf_mk {α : Type} {r : Rep α} {f : α → List Value} {ys : List α} {w w' : World} {T : TypeId} {v : Value} {n : Nat} (hn : ys.length = n) (h : w'.ownsRow w.heap.size T r.k v n (ys.flatMap f)) (hQ : Flat r (fun b => w.heap.size ≤ b) w' (ys.flatMap f) ys) (hb : Below w.heap.size w w') : OwnOf T r f ys w (.returned v) w' := by
  obtain ⟨a, c, rfl, h1, h2, h3, h4⟩ := vs_own h hQ (fun b h _ => h)
  subst hn
  exact ⟨a, c, rfl, ⟨h1, h2, h3⟩, h, h4, hb⟩
theorem flat_frs {Q : Nat → Prop} {w : World} (ys : List Fr) : Flat repFr Q w (ys.flatMap int5) ys := flat_repF (k := 5) (f := int5) (hk := by decide) (hf := fun _ => rfl) ys
def int1 (z : Int) : List Value := [.int .i64 z]
theorem flat_ints {Q : Nat → Prop} {w : World} : ∀ (ys : List Int), Flat repInt Q w (ys.flatMap int1) ys
  | [] => rfl
  | y :: ys => ⟨[.int .i64 y], ys.flatMap int1, rfl, rfl, flat_ints ys⟩
theorem one_ints (ys : List Int) : ∀ u ∈ ys.flatMap int1, u.oneCell' = true := by
  intro u hu
  obtain ⟨y, _, h⟩ := List.mem_flatMap.1 hu
  simp [int1] at h; subst h; rfl
theorem one_frs (ys : List Fr) : ∀ u ∈ ys.flatMap int5, u.oneCell' = true := by
  intro u hu
  obtain ⟨y, _, h⟩ := List.mem_flatMap.1 hu
  simp [int5] at h; rcases h with rfl | rfl | rfl | rfl | rfl <;> rfl
theorem len_ints (ys : List Int) : (ys.flatMap int1).length = ys.length := by
  have := flat_len (flat_ints (Q := Any) (w := default) ys); rw [this]; exact Nat.mul_one _
theorem len_frs (ys : List Fr) : (ys.flatMap int5).length = ys.length * 5 := flat_len (flat_frs (Q := Any) (w := default) ys)
theorem map_ints : ∀ (ys : List Int), ys.flatMap int1 = ys.map (Value.int .i64)
  | [] => rfl
  | y :: ys => congrArg (Value.int .i64 y :: ·) (map_ints ys)
theorem vs_cellsI {Q : Nat → Prop} {w : World} {a : Option Addr} {n : Nat} {ys : List Int} (h : Vs repInt Q w a n ys) : ∀ b, a = some b → ∀ j u, (ys.flatMap int1)[j]? = some u → w.cell? (b.add j) = some u := by
  rw [map_ints]; exact vs_cells1 h
theorem vs_cellsFr {Q : Nat → Prop} {w : World} {a : Option Addr} {n : Nat} {ys : List Fr} (h : Vs repFr Q w a n ys) : ∀ b, a = some b → ∀ j u, (ys.flatMap int5)[j]? = some u → w.cell? (b.add j) = some u :=
  vs_cellsF (k := 5) (f := int5) (hk := by decide) (hf := fun _ => rfl) h
theorem Try.infoI3 : (Try.prog.info? 3).map (fun i => (i.zero, i.size, i.bytes)) = some (some (.int .i64 0), 1, 8) := by kernel_rfl
theorem Try.infoF58 : (Try.prog.info? 58).map (fun i => (i.zero, i.size, i.bytes)) = some (some (.agg #[.int .i64 0, .int .i64 0, .int .i64 0, .int .i64 0, .int .i64 0]), 5, 40) := by kernel_rfl

set_option maxHeartbeats 2000000 in
theorem cloneFr_any (a : Option Addr) (n c : Nat) (ys : List Fr) (w : World) (S : Vs repFr Any w a n ys) (hc : Cap a n c) (hn : n ≤ 1000) :
    Calls Try.prog 48 #[.slice a n c] w (OwnOf 58 repFr int5 ys w) := by
  obtain ⟨i0, hi, hz0, hz1, hz2⟩ := info_parts Try.infoF58
  have HI := Lib.hid (And.intro hi (And.intro hz0 (And.intro hz1 hz2)))
  have Hn := Lib.hid S.1
  have HS := Lib.hid S
  have q := fun w => eql_nil_s 23 58 a n c Try.underlying23 w
  clear hi hz0 hz1 hz2 S
  cases a with
  | none =>
    obtain rfl : c = 0 := hc.2.2 rfl
    obtain rfl : n = 0 := by have := hc.1; omega
    obtain rfl : ys = [] := List.eq_nil_of_length_eq_zero Hn.out
    clear hc
    go_enter Try.func48, Try.ntmps48
    go_wp2
    go_ret
    exact ⟨none, 0, rfl, cap_nil, World.ownsRow_nil _ _ _ _, vs_nil, Below.refl _ _⟩
  | some p =>
    have hc1 := hc.1
    have hc2 := hc.2.1
    clear hc
    go_enter Try.func48, Try.ntmps48
    go_wp2_with (at_builtin; refine wpList_append_own _ rfl _ _ 23 rfl w.heap.size 58 i0 (.agg #[.int .i64 0, .int .i64 0, .int .i64 0, .int .i64 0, .int .i64 0]) 5 40 Try.underlying23 HI.out.1 HI.out.2.1 HI.out.2.2.1 HI.out.2.2.2 rfl (by decide) _ 0 [] rfl (World.ownsRow_made w #[] 0 (Nat.le_refl _) (by decide) (by simp)) p n c (ys.flatMap int5) rfl ?c1 ?c2 ?c3 ?c4 ?c5 ?c6 ?_)
    case c1 => rw [len_frs, Hn.out]
    case c2 => exact vs_cellsFr (vs_A _ HS.out) p rfl
    case c3 => exact one_frs _
    case c4 => unfold maxLen; omega
    case c5 => omega
    case c6 => simp
    intro v' w1 hown' hgrow _
    have hb' := ((Below.refl w.heap.size w).alloc (Nat.le_refl _) (.cells #[] 58)).grown hgrow (by simp) (fun r hr => by cases hr; simp)
    have HO := Lib.hid hown'
    have HB := Lib.hid hb'
    clear hown' hb' hgrow
    go_wp2
    go_ret
    exact ownOf_mk (r := repFr) (f := int5) Hn.out HO.out (flat_frs ys) HB.out
set_option maxHeartbeats 2000000 in
theorem cloneIn_any (a : Option Addr) (n c : Nat) (ys : List Int) (w : World) (S : Vs repInt Any w a n ys) (hc : Cap a n c) (hn : n ≤ 1000) :
    Calls Try.prog 49 #[.slice a n c] w (OwnOf 3 repInt int1 ys w) := by
  obtain ⟨i0, hi, hz0, hz1, hz2⟩ := info_parts Try.infoI3
  have HI := Lib.hid (And.intro hi (And.intro hz0 (And.intro hz1 hz2)))
  have Hn := Lib.hid S.1
  have HS := Lib.hid S
  have q := fun w => eql_nil_s 25 3 a n c Try.underlying25 w
  clear hi hz0 hz1 hz2 S
  cases a with
  | none =>
    obtain rfl : c = 0 := hc.2.2 rfl
    obtain rfl : n = 0 := by have := hc.1; omega
    obtain rfl : ys = [] := List.eq_nil_of_length_eq_zero Hn.out
    clear hc
    go_enter Try.func49, Try.ntmps49
    go_wp2
    go_ret
    exact ⟨none, 0, rfl, cap_nil, World.ownsRow_nil _ _ _ _, vs_nil, Below.refl _ _⟩
  | some p =>
    have hc1 := hc.1
    have hc2 := hc.2.1
    clear hc
    go_enter Try.func49, Try.ntmps49
    go_wp2_with (at_builtin; refine wpList_append_own _ rfl _ _ 25 rfl w.heap.size 3 i0 (.int .i64 0) 1 8 Try.underlying25 HI.out.1 HI.out.2.1 HI.out.2.2.1 HI.out.2.2.2 rfl (by decide) _ 0 [] rfl (World.ownsRow_made w #[] 0 (Nat.le_refl _) (by decide) (by simp)) p n c (ys.flatMap int1) rfl ?c1 ?c2 ?c3 ?c4 ?c5 ?c6 ?_)
    case c1 => rw [len_ints, Hn.out, Nat.mul_one]
    case c2 => exact vs_cellsI (vs_A _ HS.out) p rfl
    case c3 => exact one_ints _
    case c4 => unfold maxLen; omega
    case c5 => omega
    case c6 => simp
    intro v' w1 hown' hgrow _
    have hb' := ((Below.refl w.heap.size w).alloc (Nat.le_refl _) (.cells #[] 3)).grown hgrow (by simp) (fun r hr => by cases hr; simp)
    have HO := Lib.hid hown'
    have HB := Lib.hid hb'
    clear hown' hb' hgrow
    go_wp2
    go_ret
    exact ownOf_mk (r := repInt) (f := int1) Hn.out HO.out (flat_ints ys) HB.out
end Go.Proofs.Ytjddflnecfokaaa
