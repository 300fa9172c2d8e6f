/- The walk of LocalSums, where the places are two. -/
import Derived.Test.YtjddflnecfokaaaLwG
import Derived.BigQuiet
import Derived.Deep.QuietTactic
namespace Go.Proofs.Ytjddflnecfokaaa
open Go.ChangeShapes Go.WideShapes Go.ChangeAt Go.RowKit
open Gen

set_option maxRecDepth 100000 in
set_option maxHeartbeats 16000000 in
theorem LocalSums_ne (r : Nat → Int) (x y : Int) (jx jy : Nat) (w : World) (hw : ∀ j, j < 8 → (Lit.int .i64 (r j)).wf = true) (hjx : (x.tmod 8 + 8).tmod 8 = (jx : Nat)) (hjy : (y.tmod 8 + 8).tmod 8 = (jy : Nat)) (hx8 : jx < 8) (hy8 : jy < 8) (hne : jx ≠ jy) :
    Calls Try.prog 6 #[.agg #[.int .i64 (r 0), .int .i64 (r 1), .int .i64 (r 2), .int .i64 (r 3), .int .i64 (r 4), .int .i64 (r 5), .int .i64 (r 6), .int .i64 (r 7)], .int .i64 x, .int .i64 y] w (BoolPost true w) := by
  have hwx := wrap_8 x
  have hwy := wrap_8 y
  obtain ⟨W, hW⟩ : ∃ W, W = w.alloc (Obj.cells #[.int .i64 (r 0), .int .i64 (r 1), .int .i64 (r 2), .int .i64 (r 3), .int .i64 (r 4), .int .i64 (r 5), .int .i64 (r 6), .int .i64 (r 7)] 22) := ⟨_, rfl⟩
  have X : VarN W w.heap.size [.int .i64 (r 0), .int .i64 (r 1), .int .i64 (r 2), .int .i64 (r 3), .int .i64 (r 4), .int .i64 (r 5), .int .i64 (r 6), .int .i64 (r 7)] := by rw [hW]; exact varN_new [.int .i64 (r 0), .int .i64 (r 1), .int .i64 (r 2), .int .i64 (r 3), .int .i64 (r 4), .int .i64 (r 5), .int .i64 (r 6), .int .i64 (r 7)] _ rfl
  have hB : Below w.heap.size w W := by rw [hW]; go_grown
  have G0 := Lib.hid X
  have HB0 := Lib.hid hB
  have HW := Lib.hid hW
  have HWF := Lib.hid hw
  have HJ8 := Lib.hid (And.intro hx8 (And.intro hy8 hne))
  have i1 : (0 : Int) ≤ jx := by omega
  have i2 : (jx : Int) < 8 := by omega
  have i3 : (0 : Int) ≤ jy := by omega
  have i4 : (jy : Int) < 8 := by omega
  have hq : ((jx : Int) == (jy : Int)) = false := by simp; omega
  clear hW X hB hw hne hx8 hy8
  go_enter Try.func6, Try.ntmps6
  go_upto_region 1 with fail
  rw [← HW.out]
  clear HW
  go_upto_region 2 with fail
  clear hwx hwy hjx hjy
  have OGT := Lib.hid (show w.heap.size < W.heap.size from varN_lt G0.out (by simp))
  go_upto_region 3 with (first | (refine wpList_load_mid rfl 22 _ rfl w.heap.size 0 rfl [.int .i64 (r 0), .int .i64 (r 1), .int .i64 (r 2), .int .i64 (r 3), .int .i64 (r 4), .int .i64 (r 5), .int .i64 (r 6), .int .i64 (r 7)] _ (varN_range G0.out) Try.underlying22 rfl (by kernel_rfl) ?_) | (refine wpList_store_var rfl 27 _ _ rfl W.heap.size #[.int .i64 0, .int .i64 (r 0), .int .i64 (r 1), .int .i64 (r 2), .int .i64 (r 3), .int .i64 (r 4), .int .i64 (r 5), .int .i64 (r 6), .int .i64 (r 7), .slice none 0 0, .int .i64 0, .int .i64 0, .slice none 0 0] rfl rfl _ (varN_new [.int .i64 0, .int .i64 0, .int .i64 0, .int .i64 0, .int .i64 0, .int .i64 0, .int .i64 0, .int .i64 0, .int .i64 0, .slice none 0 0, .int .i64 0, .int .i64 0, .slice none 0 0] W.heap.size rfl) rfl (by kernel_rfl) (by simp [Value.oneCell']) ?_; intro U HU))
  obtain ⟨U1, hUU⟩ : ∃ Z, Z = U := ⟨_, rfl⟩
  rw [← hUU] at HU ⊢
  clear hUU U
  have hb : Below W.heap.size W U1 := by rw [HU.out]; exact below_setN (Nat.le_refl _) ((Below.refl _ _).alloc (Nat.le_refl _) _)
  have Tx := Lib.hid (show VarN U1 W.heap.size [.int .i64 0, .int .i64 (r 0), .int .i64 (r 1), .int .i64 (r 2), .int .i64 (r 3), .int .i64 (r 4), .int .i64 (r 5), .int .i64 (r 6), .int .i64 (r 7), .slice none 0 0, .int .i64 0, .int .i64 0, .slice none 0 0] by rw [HU.out]; exact varN_all (xs := [.int .i64 0, .int .i64 (r 0), .int .i64 (r 1), .int .i64 (r 2), .int .i64 (r 3), .int .i64 (r 4), .int .i64 (r 5), .int .i64 (r 6), .int .i64 (r 7), .slice none 0 0, .int .i64 0, .int .i64 0, .slice none 0 0]) (varN_new [.int .i64 0, .int .i64 0, .int .i64 0, .int .i64 0, .int .i64 0, .int .i64 0, .int .i64 0, .int .i64 0, .int .i64 0, .slice none 0 0, .int .i64 0, .int .i64 0, .slice none 0 0] W.heap.size rfl) rfl)
  clear HU
  have HB1 := Lib.hid (below_from HB0.out hb)
  have G1 := Lib.hid (varN_B hb G0.out)
  clear hb HB0 G0
  go_upto_region 5 with fail
  clear hq
  obtain ⟨s1, hs1⟩ : ∃ s, setR r jx (valR 5 r jx jy) = s := ⟨_, rfl⟩
  have Hs1 := Lib.hid hs1
  clear hs1
  go_wp2_with (first | (refine wpList_load_mid rfl 27 _ rfl W.heap.size 0 rfl [.int .i64 0, .int .i64 (r 0), .int .i64 (r 1), .int .i64 (r 2), .int .i64 (r 3), .int .i64 (r 4), .int .i64 (r 5), .int .i64 (r 6), .int .i64 (r 7), .slice none 0 0, .int .i64 0, .int .i64 0, .slice none 0 0] _ (varN_range Tx.out) Try.underlying27 rfl (by kernel_rfl) ?_))
  have h0 := apply_any (reT 0 r) 0 (5, (jx : Int), (jx : Int), (jy : Int)) none none 0 0 0 0 U1 (thF_nil cap_nil cap_nil)
  rw [(re_val (pc := 0) (o := 5) (r := r) (a := jx) (b := jx) (c := jy) (by decide) (by decide) HJ8.out.1 HJ8.out.1 HJ8.out.2.1).1, (re_val (pc := 0) (o := 5) (r := r) (a := jx) (b := jx) (c := jy) (by decide) (by decide) HJ8.out.1 HJ8.out.1 HJ8.out.2.1).2, Hs1.out] at h0
  refine h0.mono ?_
  clear h0
  rintro e v2 ⟨fa2, fc2, la2, lc2, rfl, Q1, hb⟩
  have HC2 : Hid (Cap fa2 0 fc2 ∧ Cap la2 0 lc2) := ⟨Q1.fcap, Q1.lcap⟩
  clear Q1
  have HB2 := Lib.hid (below_from HB1.out hb)
  have G2 := Lib.hid (varN_B hb G1.out)
  have T2 := Lib.hid (varN_B hb Tx.out)
  clear hb HB1 G1 Tx
  have OGS := Lib.hid (show w.heap.size < v2.heap.size from varN_lt G2.out (by simp))
  have OTS := Lib.hid (show W.heap.size < v2.heap.size from varN_lt T2.out (by simp))
  go_upto_region 6 with (first | (refine wpList_store_var rfl 27 _ _ rfl v2.heap.size #[.int .i64 1, .int .i64 (s1 0), .int .i64 (s1 1), .int .i64 (s1 2), .int .i64 (s1 3), .int .i64 (s1 4), .int .i64 (s1 5), .int .i64 (s1 6), .int .i64 (s1 7), .slice fa2 0 fc2, .int .i64 0, .int .i64 0, .slice la2 0 lc2] rfl rfl _ (varN_new [.int .i64 0, .int .i64 0, .int .i64 0, .int .i64 0, .int .i64 0, .int .i64 0, .int .i64 0, .int .i64 0, .int .i64 0, .slice none 0 0, .int .i64 0, .int .i64 0, .slice none 0 0] v2.heap.size rfl) rfl (by kernel_rfl) (by simp [Value.oneCell']) ?_; intro U HU))
  obtain ⟨U3, hUU⟩ : ∃ Z, Z = U := ⟨_, rfl⟩
  rw [← hUU] at HU ⊢
  clear hUU U
  have hb : Below v2.heap.size v2 U3 := by rw [HU.out]; exact below_setN (Nat.le_refl _) ((Below.refl _ _).alloc (Nat.le_refl _) _)
  have Sx := Lib.hid (show VarN U3 v2.heap.size [.int .i64 1, .int .i64 (s1 0), .int .i64 (s1 1), .int .i64 (s1 2), .int .i64 (s1 3), .int .i64 (s1 4), .int .i64 (s1 5), .int .i64 (s1 6), .int .i64 (s1 7), .slice fa2 0 fc2, .int .i64 0, .int .i64 0, .slice la2 0 lc2] by rw [HU.out]; exact varN_all (xs := [.int .i64 1, .int .i64 (s1 0), .int .i64 (s1 1), .int .i64 (s1 2), .int .i64 (s1 3), .int .i64 (s1 4), .int .i64 (s1 5), .int .i64 (s1 6), .int .i64 (s1 7), .slice fa2 0 fc2, .int .i64 0, .int .i64 0, .slice la2 0 lc2]) (varN_new [.int .i64 0, .int .i64 0, .int .i64 0, .int .i64 0, .int .i64 0, .int .i64 0, .int .i64 0, .int .i64 0, .int .i64 0, .slice none 0 0, .int .i64 0, .int .i64 0, .slice none 0 0] v2.heap.size rfl) rfl)
  clear HU
  have HB3 := Lib.hid (below_from HB2.out hb)
  have G3 := Lib.hid (varN_B hb G2.out)
  have T3 := Lib.hid (varN_B hb T2.out)
  clear hb HB2 G2 T2
  obtain ⟨s2, hs2⟩ : ∃ s, setR s1 jx (valR 6 s1 jx jy) = s := ⟨_, rfl⟩
  have Hs2 := Lib.hid hs2
  clear hs2
  go_wp2_with (first | (refine wpList_load_mid rfl 27 _ rfl v2.heap.size 0 rfl [.int .i64 1, .int .i64 (s1 0), .int .i64 (s1 1), .int .i64 (s1 2), .int .i64 (s1 3), .int .i64 (s1 4), .int .i64 (s1 5), .int .i64 (s1 6), .int .i64 (s1 7), .slice fa2 0 fc2, .int .i64 0, .int .i64 0, .slice la2 0 lc2] _ (varN_range Sx.out) Try.underlying27 rfl (by kernel_rfl) ?_))
  have h0 := apply_any (reT 1 s1) 0 (6, (jx : Int), (jx : Int), (jy : Int)) fa2 la2 0 fc2 0 lc2 U3 (thF_nil HC2.out.1 HC2.out.2)
  rw [(re_val (pc := 1) (o := 6) (r := s1) (a := jx) (b := jx) (c := jy) (by decide) (by decide) HJ8.out.1 HJ8.out.1 HJ8.out.2.1).1, (re_val (pc := 1) (o := 6) (r := s1) (a := jx) (b := jx) (c := jy) (by decide) (by decide) HJ8.out.1 HJ8.out.1 HJ8.out.2.1).2, Hs2.out] at h0
  refine h0.mono ?_
  clear h0
  rintro e v4 ⟨fa4, fc4, la4, lc4, rfl, Q1, hb⟩
  have HC4 : Hid (Cap fa4 0 fc4 ∧ Cap la4 0 lc4) := ⟨Q1.fcap, Q1.lcap⟩
  clear Q1
  have HB4 := Lib.hid (below_from HB3.out hb)
  have G4 := Lib.hid (varN_B hb G3.out)
  have T4 := Lib.hid (varN_B hb T3.out)
  have S4 := Lib.hid (varN_B hb Sx.out)
  clear hb HB3 G3 T3 Sx
  go_upto_region 7 with (refine wpList_store_var rfl 27 _ _ rfl v2.heap.size #[.int .i64 2, .int .i64 (s2 0), .int .i64 (s2 1), .int .i64 (s2 2), .int .i64 (s2 3), .int .i64 (s2 4), .int .i64 (s2 5), .int .i64 (s2 6), .int .i64 (s2 7), .slice fa4 0 fc4, .int .i64 0, .int .i64 0, .slice la4 0 lc4] rfl rfl _ S4.out rfl (by kernel_rfl) (by simp [Value.oneCell']) ?_; intro U HU)
  obtain ⟨U5, hUU⟩ : ∃ Z, Z = U := ⟨_, rfl⟩
  rw [← hUU] at HU ⊢
  clear hUU U
  have HB5 := Lib.hid (below_set HU (by have := OGS.out; omega) HB4.out)
  have G5 := Lib.hid (show VarN U5 w.heap.size [.int .i64 (r 0), .int .i64 (r 1), .int .i64 (r 2), .int .i64 (r 3), .int .i64 (r 4), .int .i64 (r 5), .int .i64 (r 6), .int .i64 (r 7)] by rw [HU.out]; exact varN_others (by have := OGS.out; omega) G4.out)
  have T5 := Lib.hid (show VarN U5 W.heap.size [.int .i64 0, .int .i64 (r 0), .int .i64 (r 1), .int .i64 (r 2), .int .i64 (r 3), .int .i64 (r 4), .int .i64 (r 5), .int .i64 (r 6), .int .i64 (r 7), .slice none 0 0, .int .i64 0, .int .i64 0, .slice none 0 0] by rw [HU.out]; exact varN_others (by have := OTS.out; omega) T4.out)
  have S5 := Lib.hid (show VarN U5 v2.heap.size [.int .i64 2, .int .i64 (s2 0), .int .i64 (s2 1), .int .i64 (s2 2), .int .i64 (s2 3), .int .i64 (s2 4), .int .i64 (s2 5), .int .i64 (s2 6), .int .i64 (s2 7), .slice fa4 0 fc4, .int .i64 0, .int .i64 0, .slice la4 0 lc4] by rw [HU.out]; exact varN_all (xs := [.int .i64 2, .int .i64 (s2 0), .int .i64 (s2 1), .int .i64 (s2 2), .int .i64 (s2 3), .int .i64 (s2 4), .int .i64 (s2 5), .int .i64 (s2 6), .int .i64 (s2 7), .slice fa4 0 fc4, .int .i64 0, .int .i64 0, .slice la4 0 lc4]) S4.out rfl)
  clear HU HB4 G4 T4 S4
  have hq1 : eqR s2 r = true := by rw [← Hs2.out, ← Hs1.out]; exact sums_math HJ8.out.1 HJ8.out.2.2 HWF.out
  have qe := fun w => eq_regs s2 r w
  rw [hq1] at qe
  clear hq1
  have ka0 : U5.cell? ⟨v2.heap.size, 0, none⟩ = some (.int .i64 2) := (S5.out 0 _ rfl).1
  have ka1 : U5.cell? ⟨v2.heap.size, 1, none⟩ = some (.int .i64 (s2 0)) := (S5.out 1 _ rfl).1
  have ka2 : U5.cell? ⟨v2.heap.size, 2, none⟩ = some (.int .i64 (s2 1)) := (S5.out 2 _ rfl).1
  have ka3 : U5.cell? ⟨v2.heap.size, 3, none⟩ = some (.int .i64 (s2 2)) := (S5.out 3 _ rfl).1
  have ka4 : U5.cell? ⟨v2.heap.size, 4, none⟩ = some (.int .i64 (s2 3)) := (S5.out 4 _ rfl).1
  have ka5 : U5.cell? ⟨v2.heap.size, 5, none⟩ = some (.int .i64 (s2 4)) := (S5.out 5 _ rfl).1
  have ka6 : U5.cell? ⟨v2.heap.size, 6, none⟩ = some (.int .i64 (s2 5)) := (S5.out 6 _ rfl).1
  have ka7 : U5.cell? ⟨v2.heap.size, 7, none⟩ = some (.int .i64 (s2 6)) := (S5.out 7 _ rfl).1
  have ka8 : U5.cell? ⟨v2.heap.size, 8, none⟩ = some (.int .i64 (s2 7)) := (S5.out 8 _ rfl).1
  have kb0 : U5.cell? ⟨w.heap.size, 0, none⟩ = some (.int .i64 (r 0)) := (G5.out 0 _ rfl).1
  have kb1 : U5.cell? ⟨w.heap.size, 1, none⟩ = some (.int .i64 (r 1)) := (G5.out 1 _ rfl).1
  have kb2 : U5.cell? ⟨w.heap.size, 2, none⟩ = some (.int .i64 (r 2)) := (G5.out 2 _ rfl).1
  have kb3 : U5.cell? ⟨w.heap.size, 3, none⟩ = some (.int .i64 (r 3)) := (G5.out 3 _ rfl).1
  have kb4 : U5.cell? ⟨w.heap.size, 4, none⟩ = some (.int .i64 (r 4)) := (G5.out 4 _ rfl).1
  have kb5 : U5.cell? ⟨w.heap.size, 5, none⟩ = some (.int .i64 (r 5)) := (G5.out 5 _ rfl).1
  have kb6 : U5.cell? ⟨w.heap.size, 6, none⟩ = some (.int .i64 (r 6)) := (G5.out 6 _ rfl).1
  have kb7 : U5.cell? ⟨w.heap.size, 7, none⟩ = some (.int .i64 (r 7)) := (G5.out 7 _ rfl).1
  go_wp2_with fail
  have h0 := alive7_any U5
  refine h0.mono ?_
  clear h0
  rintro e v6 ⟨rfl, hb⟩
  have HB6 := Lib.hid (below_from HB5.out hb)
  have G6 := Lib.hid (varN_B hb G5.out)
  have T6 := Lib.hid (varN_B hb T5.out)
  have S6 := Lib.hid (varN_B hb S5.out)
  clear hb HB5 G5 T5 S5
  clear qe ka0 ka1 ka2 ka3 ka4 ka5 ka6 ka7 ka8 kb0 kb1 kb2 kb3 kb4 kb5 kb6 kb7
  obtain ⟨x1, hx1⟩ : ∃ s, setR r jx (valR 8 r jx jy) = s := ⟨_, rfl⟩
  have Hx1 := Lib.hid hx1
  clear hx1
  go_wp2_with (first | (refine wpList_load_mid rfl 27 _ rfl W.heap.size 0 rfl [.int .i64 0, .int .i64 (r 0), .int .i64 (r 1), .int .i64 (r 2), .int .i64 (r 3), .int .i64 (r 4), .int .i64 (r 5), .int .i64 (r 6), .int .i64 (r 7), .slice none 0 0, .int .i64 0, .int .i64 0, .slice none 0 0] _ (varN_range T6.out) Try.underlying27 rfl (by kernel_rfl) ?_))
  have h0 := apply_any (reT 0 r) 0 (8, (jx : Int), (jx : Int), (jy : Int)) none none 0 0 0 0 v6 (thF_nil cap_nil cap_nil)
  rw [(re_val (pc := 0) (o := 8) (r := r) (a := jx) (b := jx) (c := jy) (by decide) (by decide) HJ8.out.1 HJ8.out.1 HJ8.out.2.1).1, (re_val (pc := 0) (o := 8) (r := r) (a := jx) (b := jx) (c := jy) (by decide) (by decide) HJ8.out.1 HJ8.out.1 HJ8.out.2.1).2, Hx1.out] at h0
  refine h0.mono ?_
  clear h0
  rintro e v7 ⟨fa7, fc7, la7, lc7, rfl, Q1, hb⟩
  have HC7 : Hid (Cap fa7 0 fc7 ∧ Cap la7 0 lc7) := ⟨Q1.fcap, Q1.lcap⟩
  clear Q1
  have HB7 := Lib.hid (below_from HB6.out hb)
  have G7 := Lib.hid (varN_B hb G6.out)
  have T7 := Lib.hid (varN_B hb T6.out)
  have S7 := Lib.hid (varN_B hb S6.out)
  clear hb HB6 G6 T6 S6
  go_upto_region 10 with (refine wpList_store_var rfl 27 _ _ rfl v2.heap.size #[.int .i64 1, .int .i64 (x1 0), .int .i64 (x1 1), .int .i64 (x1 2), .int .i64 (x1 3), .int .i64 (x1 4), .int .i64 (x1 5), .int .i64 (x1 6), .int .i64 (x1 7), .slice fa7 0 fc7, .int .i64 0, .int .i64 0, .slice la7 0 lc7] rfl rfl _ S7.out rfl (by kernel_rfl) (by simp [Value.oneCell']) ?_; intro U HU)
  obtain ⟨U8, hUU⟩ : ∃ Z, Z = U := ⟨_, rfl⟩
  rw [← hUU] at HU ⊢
  clear hUU U
  have HB8 := Lib.hid (below_set HU (by have := OGS.out; omega) HB7.out)
  have G8 := Lib.hid (show VarN U8 w.heap.size [.int .i64 (r 0), .int .i64 (r 1), .int .i64 (r 2), .int .i64 (r 3), .int .i64 (r 4), .int .i64 (r 5), .int .i64 (r 6), .int .i64 (r 7)] by rw [HU.out]; exact varN_others (by have := OGS.out; omega) G7.out)
  have T8 := Lib.hid (show VarN U8 W.heap.size [.int .i64 0, .int .i64 (r 0), .int .i64 (r 1), .int .i64 (r 2), .int .i64 (r 3), .int .i64 (r 4), .int .i64 (r 5), .int .i64 (r 6), .int .i64 (r 7), .slice none 0 0, .int .i64 0, .int .i64 0, .slice none 0 0] by rw [HU.out]; exact varN_others (by have := OTS.out; omega) T7.out)
  have S8 := Lib.hid (show VarN U8 v2.heap.size [.int .i64 1, .int .i64 (x1 0), .int .i64 (x1 1), .int .i64 (x1 2), .int .i64 (x1 3), .int .i64 (x1 4), .int .i64 (x1 5), .int .i64 (x1 6), .int .i64 (x1 7), .slice fa7 0 fc7, .int .i64 0, .int .i64 0, .slice la7 0 lc7] by rw [HU.out]; exact varN_all (xs := [.int .i64 1, .int .i64 (x1 0), .int .i64 (x1 1), .int .i64 (x1 2), .int .i64 (x1 3), .int .i64 (x1 4), .int .i64 (x1 5), .int .i64 (x1 6), .int .i64 (x1 7), .slice fa7 0 fc7, .int .i64 0, .int .i64 0, .slice la7 0 lc7]) S7.out rfl)
  clear HU HB7 G7 T7 S7
  obtain ⟨x2, hx2⟩ : ∃ s, setR x1 jy (valR 8 x1 jx jy) = s := ⟨_, rfl⟩
  have Hx2 := Lib.hid hx2
  clear hx2
  go_wp2_with (first | (refine wpList_load_mid rfl 27 _ rfl v2.heap.size 0 rfl [.int .i64 1, .int .i64 (x1 0), .int .i64 (x1 1), .int .i64 (x1 2), .int .i64 (x1 3), .int .i64 (x1 4), .int .i64 (x1 5), .int .i64 (x1 6), .int .i64 (x1 7), .slice fa7 0 fc7, .int .i64 0, .int .i64 0, .slice la7 0 lc7] _ (varN_range S8.out) Try.underlying27 rfl (by kernel_rfl) ?_))
  have h0 := apply_any (reT 1 x1) 0 (8, (jy : Int), (jx : Int), (jy : Int)) fa7 la7 0 fc7 0 lc7 U8 (thF_nil HC7.out.1 HC7.out.2)
  rw [(re_val (pc := 1) (o := 8) (r := x1) (a := jy) (b := jx) (c := jy) (by decide) (by decide) HJ8.out.2.1 HJ8.out.1 HJ8.out.2.1).1, (re_val (pc := 1) (o := 8) (r := x1) (a := jy) (b := jx) (c := jy) (by decide) (by decide) HJ8.out.2.1 HJ8.out.1 HJ8.out.2.1).2, Hx2.out] at h0
  refine h0.mono ?_
  clear h0
  rintro e v9 ⟨fa9, fc9, la9, lc9, rfl, Q1, hb⟩
  have HC9 : Hid (Cap fa9 0 fc9 ∧ Cap la9 0 lc9) := ⟨Q1.fcap, Q1.lcap⟩
  clear Q1
  have HB9 := Lib.hid (below_from HB8.out hb)
  have G9 := Lib.hid (varN_B hb G8.out)
  have T9 := Lib.hid (varN_B hb T8.out)
  have S9 := Lib.hid (varN_B hb S8.out)
  clear hb HB8 G8 T8 S8
  go_upto_region 11 with (refine wpList_store_var rfl 27 _ _ rfl v2.heap.size #[.int .i64 2, .int .i64 (x2 0), .int .i64 (x2 1), .int .i64 (x2 2), .int .i64 (x2 3), .int .i64 (x2 4), .int .i64 (x2 5), .int .i64 (x2 6), .int .i64 (x2 7), .slice fa9 0 fc9, .int .i64 0, .int .i64 0, .slice la9 0 lc9] rfl rfl _ S9.out rfl (by kernel_rfl) (by simp [Value.oneCell']) ?_; intro U HU)
  obtain ⟨U10, hUU⟩ : ∃ Z, Z = U := ⟨_, rfl⟩
  rw [← hUU] at HU ⊢
  clear hUU U
  have HB10 := Lib.hid (below_set HU (by have := OGS.out; omega) HB9.out)
  have G10 := Lib.hid (show VarN U10 w.heap.size [.int .i64 (r 0), .int .i64 (r 1), .int .i64 (r 2), .int .i64 (r 3), .int .i64 (r 4), .int .i64 (r 5), .int .i64 (r 6), .int .i64 (r 7)] by rw [HU.out]; exact varN_others (by have := OGS.out; omega) G9.out)
  have T10 := Lib.hid (show VarN U10 W.heap.size [.int .i64 0, .int .i64 (r 0), .int .i64 (r 1), .int .i64 (r 2), .int .i64 (r 3), .int .i64 (r 4), .int .i64 (r 5), .int .i64 (r 6), .int .i64 (r 7), .slice none 0 0, .int .i64 0, .int .i64 0, .slice none 0 0] by rw [HU.out]; exact varN_others (by have := OTS.out; omega) T9.out)
  have S10 := Lib.hid (show VarN U10 v2.heap.size [.int .i64 2, .int .i64 (x2 0), .int .i64 (x2 1), .int .i64 (x2 2), .int .i64 (x2 3), .int .i64 (x2 4), .int .i64 (x2 5), .int .i64 (x2 6), .int .i64 (x2 7), .slice fa9 0 fc9, .int .i64 0, .int .i64 0, .slice la9 0 lc9] by rw [HU.out]; exact varN_all (xs := [.int .i64 2, .int .i64 (x2 0), .int .i64 (x2 1), .int .i64 (x2 2), .int .i64 (x2 3), .int .i64 (x2 4), .int .i64 (x2 5), .int .i64 (x2 6), .int .i64 (x2 7), .slice fa9 0 fc9, .int .i64 0, .int .i64 0, .slice la9 0 lc9]) S9.out rfl)
  clear HU HB9 G9 T9 S9
  obtain ⟨x3, hx3⟩ : ∃ s, setR x2 jx (valR 8 x2 jx jy) = s := ⟨_, rfl⟩
  have Hx3 := Lib.hid hx3
  clear hx3
  go_wp2_with (first | (refine wpList_load_mid rfl 27 _ rfl v2.heap.size 0 rfl [.int .i64 2, .int .i64 (x2 0), .int .i64 (x2 1), .int .i64 (x2 2), .int .i64 (x2 3), .int .i64 (x2 4), .int .i64 (x2 5), .int .i64 (x2 6), .int .i64 (x2 7), .slice fa9 0 fc9, .int .i64 0, .int .i64 0, .slice la9 0 lc9] _ (varN_range S10.out) Try.underlying27 rfl (by kernel_rfl) ?_))
  have h0 := apply_any (reT 2 x2) 0 (8, (jx : Int), (jx : Int), (jy : Int)) fa9 la9 0 fc9 0 lc9 U10 (thF_nil HC9.out.1 HC9.out.2)
  rw [(re_val (pc := 2) (o := 8) (r := x2) (a := jx) (b := jx) (c := jy) (by decide) (by decide) HJ8.out.1 HJ8.out.1 HJ8.out.2.1).1, (re_val (pc := 2) (o := 8) (r := x2) (a := jx) (b := jx) (c := jy) (by decide) (by decide) HJ8.out.1 HJ8.out.1 HJ8.out.2.1).2, Hx3.out] at h0
  refine h0.mono ?_
  clear h0
  rintro e v11 ⟨fa11, fc11, la11, lc11, rfl, Q1, hb⟩
  have HC11 : Hid (Cap fa11 0 fc11 ∧ Cap la11 0 lc11) := ⟨Q1.fcap, Q1.lcap⟩
  clear Q1
  have HB11 := Lib.hid (below_from HB10.out hb)
  have G11 := Lib.hid (varN_B hb G10.out)
  have T11 := Lib.hid (varN_B hb T10.out)
  have S11 := Lib.hid (varN_B hb S10.out)
  clear hb HB10 G10 T10 S10
  go_upto_region 12 with (refine wpList_store_var rfl 27 _ _ rfl v2.heap.size #[.int .i64 3, .int .i64 (x3 0), .int .i64 (x3 1), .int .i64 (x3 2), .int .i64 (x3 3), .int .i64 (x3 4), .int .i64 (x3 5), .int .i64 (x3 6), .int .i64 (x3 7), .slice fa11 0 fc11, .int .i64 0, .int .i64 0, .slice la11 0 lc11] rfl rfl _ S11.out rfl (by kernel_rfl) (by simp [Value.oneCell']) ?_; intro U HU)
  obtain ⟨U12, hUU⟩ : ∃ Z, Z = U := ⟨_, rfl⟩
  rw [← hUU] at HU ⊢
  clear hUU U
  have HB12 := Lib.hid (below_set HU (by have := OGS.out; omega) HB11.out)
  have G12 := Lib.hid (show VarN U12 w.heap.size [.int .i64 (r 0), .int .i64 (r 1), .int .i64 (r 2), .int .i64 (r 3), .int .i64 (r 4), .int .i64 (r 5), .int .i64 (r 6), .int .i64 (r 7)] by rw [HU.out]; exact varN_others (by have := OGS.out; omega) G11.out)
  have T12 := Lib.hid (show VarN U12 W.heap.size [.int .i64 0, .int .i64 (r 0), .int .i64 (r 1), .int .i64 (r 2), .int .i64 (r 3), .int .i64 (r 4), .int .i64 (r 5), .int .i64 (r 6), .int .i64 (r 7), .slice none 0 0, .int .i64 0, .int .i64 0, .slice none 0 0] by rw [HU.out]; exact varN_others (by have := OTS.out; omega) T11.out)
  have S12 := Lib.hid (show VarN U12 v2.heap.size [.int .i64 3, .int .i64 (x3 0), .int .i64 (x3 1), .int .i64 (x3 2), .int .i64 (x3 3), .int .i64 (x3 4), .int .i64 (x3 5), .int .i64 (x3 6), .int .i64 (x3 7), .slice fa11 0 fc11, .int .i64 0, .int .i64 0, .slice la11 0 lc11] by rw [HU.out]; exact varN_all (xs := [.int .i64 3, .int .i64 (x3 0), .int .i64 (x3 1), .int .i64 (x3 2), .int .i64 (x3 3), .int .i64 (x3 4), .int .i64 (x3 5), .int .i64 (x3 6), .int .i64 (x3 7), .slice fa11 0 fc11, .int .i64 0, .int .i64 0, .slice la11 0 lc11]) S11.out rfl)
  clear HU HB11 G11 T11 S11
  have OGV := Lib.hid (show w.heap.size < U12.heap.size from varN_lt G12.out (by simp))
  have OTV := Lib.hid (show W.heap.size < U12.heap.size from varN_lt T12.out (by simp))
  have OSV := Lib.hid (show v2.heap.size < U12.heap.size from varN_lt S12.out (by simp))
  go_upto_region 13 with (first | (refine wpList_load_mid rfl 22 _ rfl w.heap.size 0 rfl [.int .i64 (r 0), .int .i64 (r 1), .int .i64 (r 2), .int .i64 (r 3), .int .i64 (r 4), .int .i64 (r 5), .int .i64 (r 6), .int .i64 (r 7)] _ (varN_range G12.out) Try.underlying22 rfl (by kernel_rfl) ?_) | (refine wpList_store_var rfl 22 _ _ rfl U12.heap.size #[.int .i64 (r 0), .int .i64 (r 1), .int .i64 (r 2), .int .i64 (r 3), .int .i64 (r 4), .int .i64 (r 5), .int .i64 (r 6), .int .i64 (r 7)] rfl rfl _ (varN_new [.int .i64 0, .int .i64 0, .int .i64 0, .int .i64 0, .int .i64 0, .int .i64 0, .int .i64 0, .int .i64 0] U12.heap.size rfl) rfl (by kernel_rfl) (one_arr _ _ _ _ _ _ _ _) ?_; intro U HU))
  obtain ⟨U13, hUU⟩ : ∃ Z, Z = U := ⟨_, rfl⟩
  rw [← hUU] at HU ⊢
  clear hUU U
  have hb : Below U12.heap.size U12 U13 := by rw [HU.out]; exact below_setN (Nat.le_refl _) ((Below.refl _ _).alloc (Nat.le_refl _) _)
  have Vx := Lib.hid (show VarN U13 U12.heap.size [.int .i64 (r 0), .int .i64 (r 1), .int .i64 (r 2), .int .i64 (r 3), .int .i64 (r 4), .int .i64 (r 5), .int .i64 (r 6), .int .i64 (r 7)] by rw [HU.out]; exact varN_all (xs := [.int .i64 (r 0), .int .i64 (r 1), .int .i64 (r 2), .int .i64 (r 3), .int .i64 (r 4), .int .i64 (r 5), .int .i64 (r 6), .int .i64 (r 7)]) (varN_new [.int .i64 0, .int .i64 0, .int .i64 0, .int .i64 0, .int .i64 0, .int .i64 0, .int .i64 0, .int .i64 0] U12.heap.size rfl) rfl)
  clear HU
  have HB13 := Lib.hid (below_from HB12.out hb)
  have G13 := Lib.hid (varN_B hb G12.out)
  have T13 := Lib.hid (varN_B hb T12.out)
  have S13 := Lib.hid (varN_B hb S12.out)
  clear hb HB12 G12 T12 S12
  have HJ := Lib.hid (show (0 : Int) ≤ jx ∧ (jx : Int) < 8 ∧ (0 : Int) ≤ jy ∧ (jy : Int) < 8 ∧ jx < 8 ∧ jy < 8 ∧ jx ≠ jy ∧ w.heap.size < U12.heap.size from ⟨i1, i2, i3, i4, HJ8.out.1, HJ8.out.2.1, HJ8.out.2.2, OGV.out⟩)
  have HRG9 := G13
  have HWV9 := Vx
  refine wp_region_inv (WantR r w.heap.size U12.heap.size jx jy) (by kernel_rfl) (by kernel_rfl) ?_ ?_ ?_
  · intro listed hl
    exact .mk undef undef undef undef undef undef undef undef undef undef r (by simp only [Act.put, List.setIfInBounds_toArray, List.set_cons_zero, List.set_cons_succ]) (⟨(Below.refl _ _).drew, varN_D HRG9.out, varN_D HWV9.out, fun _ _ _ => rfl⟩) (fun h => absurd h (hl 0 (by decide))) (fun h => absurd h (hl 1 (by decide))) (fun h => absurd h (hl 2 (by decide))) (fun h => absurd h (hl 3 (by decide))) (fun h => absurd h (hl 4 (by decide))) (fun h => absurd h (hl 5 (by decide))) (fun h => absurd h (hl 6 (by decide))) (fun h => absurd h (hl 7 (by decide))) (fun h => absurd h (hl 8 (by decide))) (fun h => absurd h (hl 9 (by decide))) (fun h => absurd h (hl 10 (by decide))) (fun h => absurd h (hl 11 (by decide)))
  · show StepsL _ _ _ _ _ _ _
    refine StepsL.cons (k := 0) rfl (fun listed a1 w1 hI hn hw K hK => ?_) ?_
    · cases hI with | mk p99 p100 p101 p102 p103 p104 p105 p106 p107 p108 rr ea hb hf0 hf1 hf2 hf3 hf4 hf5 hf6 hf7 hf8 hS hf10 hU =>
        have Hhf0 := Lib.hid hf0
        have Hhf1 := Lib.hid hf1
        have Hhf2 := Lib.hid hf2
        have Hhf3 := Lib.hid hf3
        have Hhf4 := Lib.hid hf4
        have Hhf5 := Lib.hid hf5
        have Hhf6 := Lib.hid hf6
        have Hhf7 := Lib.hid hf7
        have Hhf8 := Lib.hid hf8
        have HhS := Lib.hid hS
        have Hhf10 := Lib.hid hf10
        have HhU := Lib.hid hU
        have Hhb := Lib.hid hb
        have Hhw := Lib.hid hw
        clear hf0 hf1 hf2 hf3 hf4 hf5 hf6 hf7 hf8 hS hf10 hU hb hw
        rw [ea]
        clear ea
        simp only [Act.put, List.setIfInBounds_toArray, List.set_cons_zero, List.set_cons_succ]
        go_simp
        have hf0 := Hhf0.out
        have hf1 := Hhf1.out
        have hf2 := Hhf2.out
        have hf3 := Hhf3.out
        have hf4 := Hhf4.out
        have hf5 := Hhf5.out
        have hf6 := Hhf6.out
        have hf7 := Hhf7.out
        have hf8 := Hhf8.out
        have hS := HhS.out
        have hf10 := Hhf10.out
        have hU := HhU.out
        have hb := Hhb.out
        have hw := Hhw.out
        refine hK.out _ _ ?_
        exact .mk (.int .i64 (jx : Nat)) p100 p101 p102 p103 p104 p105 p106 p107 p108 rr (by simp only [Act.put, List.setIfInBounds_toArray, List.set_cons_zero, List.set_cons_succ]) (hb) (fun _ => rfl) (fun h => hf1 (up_back h (by decide))) (fun h => hf2 (up_back h (by decide))) (fun h => hf3 (up_back h (by decide))) (fun h => hf4 (up_back h (by decide))) (fun h => hf5 (up_back h (by decide))) (fun h => hf6 (up_back h (by decide))) (fun h => hf7 (up_back h (by decide))) (fun h => hf8 (up_back h (by decide))) (fun h => hS (up_back h (by decide))) (fun h => hf10 (up_back h (by decide))) (fun h => hU (up_back h (by decide)))
    refine StepsL.cons (k := 1) rfl (fun listed a1 w1 hI hn hw K hK => ?_) ?_
    · cases hI with | mk p99 p100 p101 p102 p103 p104 p105 p106 p107 p108 rr ea hb hf0 hf1 hf2 hf3 hf4 hf5 hf6 hf7 hf8 hS hf10 hU =>
        have Hhf0 := Lib.hid hf0
        have Hhf1 := Lib.hid hf1
        have Hhf2 := Lib.hid hf2
        have Hhf3 := Lib.hid hf3
        have Hhf4 := Lib.hid hf4
        have Hhf5 := Lib.hid hf5
        have Hhf6 := Lib.hid hf6
        have Hhf7 := Lib.hid hf7
        have Hhf8 := Lib.hid hf8
        have HhS := Lib.hid hS
        have Hhf10 := Lib.hid hf10
        have HhU := Lib.hid hU
        have Hhb := Lib.hid hb
        have Hhw := Lib.hid hw
        clear hf0 hf1 hf2 hf3 hf4 hf5 hf6 hf7 hf8 hS hf10 hU hb hw
        rw [ea]
        clear ea
        simp only [Act.put, List.setIfInBounds_toArray, List.set_cons_zero, List.set_cons_succ]
        go_simp
        have hf0 := Hhf0.out
        have hf1 := Hhf1.out
        have hf2 := Hhf2.out
        have hf3 := Hhf3.out
        have hf4 := Hhf4.out
        have hf5 := Hhf5.out
        have hf6 := Hhf6.out
        have hf7 := Hhf7.out
        have hf8 := Hhf8.out
        have hS := HhS.out
        have hf10 := Hhf10.out
        have hU := HhU.out
        have hb := Hhb.out
        have hw := Hhw.out
        refine hK.out _ _ ?_
        exact .mk p99 (.int .i64 (jy : Nat)) p101 p102 p103 p104 p105 p106 p107 p108 rr (by simp only [Act.put, List.setIfInBounds_toArray, List.set_cons_zero, List.set_cons_succ]) (hb) (fun h => hf0 (up_back h (by decide))) (fun _ => rfl) (fun h => hf2 (up_back h (by decide))) (fun h => hf3 (up_back h (by decide))) (fun h => hf4 (up_back h (by decide))) (fun h => hf5 (up_back h (by decide))) (fun h => hf6 (up_back h (by decide))) (fun h => hf7 (up_back h (by decide))) (fun h => hf8 (up_back h (by decide))) (fun h => hS (up_back h (by decide))) (fun h => hf10 (up_back h (by decide))) (fun h => hU (up_back h (by decide)))
    refine StepsL.cons (k := 2) rfl (fun listed a1 w1 hI hn hw K hK => ?_) ?_
    · cases hI with | mk p99 p100 p101 p102 p103 p104 p105 p106 p107 p108 rr ea hb hf0 hf1 hf2 hf3 hf4 hf5 hf6 hf7 hf8 hS hf10 hU =>
        have Hhf0 := Lib.hid hf0
        have Hhf1 := Lib.hid hf1
        have Hhf2 := Lib.hid hf2
        have Hhf3 := Lib.hid hf3
        have Hhf4 := Lib.hid hf4
        have Hhf5 := Lib.hid hf5
        have Hhf6 := Lib.hid hf6
        have Hhf7 := Lib.hid hf7
        have Hhf8 := Lib.hid hf8
        have HhS := Lib.hid hS
        have Hhf10 := Lib.hid hf10
        have HhU := Lib.hid hU
        have Hhb := Lib.hid hb
        have Hhw := Lib.hid hw
        clear hf0 hf1 hf2 hf3 hf4 hf5 hf6 hf7 hf8 hS hf10 hU hb hw
        rw [ea]
        clear ea
        simp only [Act.put, List.setIfInBounds_toArray, List.set_cons_zero, List.set_cons_succ]
        go_simp
        have hf0 := Hhf0.out
        have hf1 := Hhf1.out
        have hf2 := Hhf2.out
        have hf3 := Hhf3.out
        have hf4 := Hhf4.out
        have hf5 := Hhf5.out
        have hf6 := Hhf6.out
        have hf7 := Hhf7.out
        have hf8 := Hhf8.out
        have hS := HhS.out
        have hf10 := Hhf10.out
        have hU := HhU.out
        have hb := Hhb.out
        have hw := Hhw.out
        refine hK.out _ _ ?_
        exact .mk p99 p100 (.int .i64 (jy : Nat)) p102 p103 p104 p105 p106 p107 p108 rr (by simp only [Act.put, List.setIfInBounds_toArray, List.set_cons_zero, List.set_cons_succ]) (hb) (fun h => hf0 (up_back h (by decide))) (fun h => hf1 (up_back h (by decide))) (fun _ => rfl) (fun h => hf3 (up_back h (by decide))) (fun h => hf4 (up_back h (by decide))) (fun h => hf5 (up_back h (by decide))) (fun h => hf6 (up_back h (by decide))) (fun h => hf7 (up_back h (by decide))) (fun h => hf8 (up_back h (by decide))) (fun h => hS (up_back h (by decide))) (fun h => hf10 (up_back h (by decide))) (fun h => hU (up_back h (by decide)))
    refine StepsL.cons (k := 3) rfl (fun listed a1 w1 hI hn hw K hK => ?_) ?_
    · cases hI with | mk p99 p100 p101 p102 p103 p104 p105 p106 p107 p108 rr ea hb hf0 hf1 hf2 hf3 hf4 hf5 hf6 hf7 hf8 hS hf10 hU =>
        have e_f2 := hf2 (hw 2 (by decide))
        subst e_f2
        have i1 := HJ.out.1
        have i2 := HJ.out.2.1
        have i3 := HJ.out.2.2.1
        have i4 := HJ.out.2.2.2.1
        have Hhf0 := Lib.hid hf0
        have Hhf1 := Lib.hid hf1
        have Hhf2 := Lib.hid hf2
        have Hhf3 := Lib.hid hf3
        have Hhf4 := Lib.hid hf4
        have Hhf5 := Lib.hid hf5
        have Hhf6 := Lib.hid hf6
        have Hhf7 := Lib.hid hf7
        have Hhf8 := Lib.hid hf8
        have HhS := Lib.hid hS
        have Hhf10 := Lib.hid hf10
        have HhU := Lib.hid hU
        have Hhb := Lib.hid hb
        have Hhw := Lib.hid hw
        clear hf0 hf1 hf2 hf3 hf4 hf5 hf6 hf7 hf8 hS hf10 hU hb hw
        rw [ea]
        clear ea
        simp only [Act.put, List.setIfInBounds_toArray, List.set_cons_zero, List.set_cons_succ]
        go_simp
        have hf0 := Hhf0.out
        have hf1 := Hhf1.out
        have hf2 := Hhf2.out
        have hf3 := Hhf3.out
        have hf4 := Hhf4.out
        have hf5 := Hhf5.out
        have hf6 := Hhf6.out
        have hf7 := Hhf7.out
        have hf8 := Hhf8.out
        have hS := HhS.out
        have hf10 := Hhf10.out
        have hU := HhU.out
        have hb := Hhb.out
        have hw := Hhw.out
        refine hK.out _ _ ?_
        exact .mk p99 p100 (.int .i64 (jy : Nat)) (.pointer (some ⟨w.heap.size, jy, none⟩)) p103 p104 p105 p106 p107 p108 rr (by simp only [Act.put, List.setIfInBounds_toArray, List.set_cons_zero, List.set_cons_succ]) (hb) (fun h => hf0 (up_back h (by decide))) (fun h => hf1 (up_back h (by decide))) (fun _ => rfl) (fun _ => rfl) (fun h => hf4 (up_back h (by decide))) (fun h => hf5 (up_back h (by decide))) (fun h => hf6 (up_back h (by decide))) (fun h => hf7 (up_back h (by decide))) (fun h => hf8 (up_back h (by decide))) (fun h => hS (up_back h (by decide))) (fun h => hf10 (up_back h (by decide))) (fun h => hU (up_back h (by decide)))
    refine StepsL.cons (k := 4) rfl (fun listed a1 w1 hI hn hw K hK => ?_) ?_
    · cases hI with | mk p99 p100 p101 p102 p103 p104 p105 p106 p107 p108 rr ea hb hf0 hf1 hf2 hf3 hf4 hf5 hf6 hf7 hf8 hS hf10 hU =>
        have e_f3 := hf3 (hw 3 (by decide))
        subst e_f3
        have kc := (hb.2.1 jy _ (get_reg0 r jy HJ.out.2.2.2.2.2.1 _)).1
        have Hhf0 := Lib.hid hf0
        have Hhf1 := Lib.hid hf1
        have Hhf2 := Lib.hid hf2
        have Hhf3 := Lib.hid hf3
        have Hhf4 := Lib.hid hf4
        have Hhf5 := Lib.hid hf5
        have Hhf6 := Lib.hid hf6
        have Hhf7 := Lib.hid hf7
        have Hhf8 := Lib.hid hf8
        have HhS := Lib.hid hS
        have Hhf10 := Lib.hid hf10
        have HhU := Lib.hid hU
        have Hhb := Lib.hid hb
        have Hhw := Lib.hid hw
        clear hf0 hf1 hf2 hf3 hf4 hf5 hf6 hf7 hf8 hS hf10 hU hb hw
        rw [ea]
        clear ea
        simp only [Act.put, List.setIfInBounds_toArray, List.set_cons_zero, List.set_cons_succ]
        go_simp
        have hf0 := Hhf0.out
        have hf1 := Hhf1.out
        have hf2 := Hhf2.out
        have hf3 := Hhf3.out
        have hf4 := Hhf4.out
        have hf5 := Hhf5.out
        have hf6 := Hhf6.out
        have hf7 := Hhf7.out
        have hf8 := Hhf8.out
        have hS := HhS.out
        have hf10 := Hhf10.out
        have hU := HhU.out
        have hb := Hhb.out
        have hw := Hhw.out
        refine hK.out _ _ ?_
        exact .mk p99 p100 p101 (.pointer (some ⟨w.heap.size, jy, none⟩)) (.int .i64 (r jy)) p104 p105 p106 p107 p108 rr (by simp only [Act.put, List.setIfInBounds_toArray, List.set_cons_zero, List.set_cons_succ]) (hb) (fun h => hf0 (up_back h (by decide))) (fun h => hf1 (up_back h (by decide))) (fun h => hf2 (up_back h (by decide))) (fun _ => rfl) (fun _ => rfl) (fun h => hf5 (up_back h (by decide))) (fun h => hf6 (up_back h (by decide))) (fun h => hf7 (up_back h (by decide))) (fun h => hf8 (up_back h (by decide))) (fun h => hS (up_back h (by decide))) (fun h => hf10 (up_back h (by decide))) (fun h => hU (up_back h (by decide)))
    refine StepsL.cons (k := 5) rfl (fun listed a1 w1 hI hn hw K hK => ?_) ?_
    · cases hI with | mk p99 p100 p101 p102 p103 p104 p105 p106 p107 p108 rr ea hb hf0 hf1 hf2 hf3 hf4 hf5 hf6 hf7 hf8 hS hf10 hU =>
        have Hhf0 := Lib.hid hf0
        have Hhf1 := Lib.hid hf1
        have Hhf2 := Lib.hid hf2
        have Hhf3 := Lib.hid hf3
        have Hhf4 := Lib.hid hf4
        have Hhf5 := Lib.hid hf5
        have Hhf6 := Lib.hid hf6
        have Hhf7 := Lib.hid hf7
        have Hhf8 := Lib.hid hf8
        have HhS := Lib.hid hS
        have Hhf10 := Lib.hid hf10
        have HhU := Lib.hid hU
        have Hhb := Lib.hid hb
        have Hhw := Lib.hid hw
        clear hf0 hf1 hf2 hf3 hf4 hf5 hf6 hf7 hf8 hS hf10 hU hb hw
        rw [ea]
        clear ea
        simp only [Act.put, List.setIfInBounds_toArray, List.set_cons_zero, List.set_cons_succ]
        go_simp
        have hf0 := Hhf0.out
        have hf1 := Hhf1.out
        have hf2 := Hhf2.out
        have hf3 := Hhf3.out
        have hf4 := Hhf4.out
        have hf5 := Hhf5.out
        have hf6 := Hhf6.out
        have hf7 := Hhf7.out
        have hf8 := Hhf8.out
        have hS := HhS.out
        have hf10 := Hhf10.out
        have hU := HhU.out
        have hb := Hhb.out
        have hw := Hhw.out
        refine hK.out _ _ ?_
        exact .mk p99 p100 p101 p102 p103 (.int .i64 (jx : Nat)) p105 p106 p107 p108 rr (by simp only [Act.put, List.setIfInBounds_toArray, List.set_cons_zero, List.set_cons_succ]) (hb) (fun h => hf0 (up_back h (by decide))) (fun h => hf1 (up_back h (by decide))) (fun h => hf2 (up_back h (by decide))) (fun h => hf3 (up_back h (by decide))) (fun h => hf4 (up_back h (by decide))) (fun _ => rfl) (fun h => hf6 (up_back h (by decide))) (fun h => hf7 (up_back h (by decide))) (fun h => hf8 (up_back h (by decide))) (fun h => hS (up_back h (by decide))) (fun h => hf10 (up_back h (by decide))) (fun h => hU (up_back h (by decide)))
    refine StepsL.cons (k := 6) rfl (fun listed a1 w1 hI hn hw K hK => ?_) ?_
    · cases hI with | mk p99 p100 p101 p102 p103 p104 p105 p106 p107 p108 rr ea hb hf0 hf1 hf2 hf3 hf4 hf5 hf6 hf7 hf8 hS hf10 hU =>
        have e_f5 := hf5 (hw 5 (by decide))
        subst e_f5
        have i1 := HJ.out.1
        have i2 := HJ.out.2.1
        have i3 := HJ.out.2.2.1
        have i4 := HJ.out.2.2.2.1
        have Hhf0 := Lib.hid hf0
        have Hhf1 := Lib.hid hf1
        have Hhf2 := Lib.hid hf2
        have Hhf3 := Lib.hid hf3
        have Hhf4 := Lib.hid hf4
        have Hhf5 := Lib.hid hf5
        have Hhf6 := Lib.hid hf6
        have Hhf7 := Lib.hid hf7
        have Hhf8 := Lib.hid hf8
        have HhS := Lib.hid hS
        have Hhf10 := Lib.hid hf10
        have HhU := Lib.hid hU
        have Hhb := Lib.hid hb
        have Hhw := Lib.hid hw
        clear hf0 hf1 hf2 hf3 hf4 hf5 hf6 hf7 hf8 hS hf10 hU hb hw
        rw [ea]
        clear ea
        simp only [Act.put, List.setIfInBounds_toArray, List.set_cons_zero, List.set_cons_succ]
        go_simp
        have hf0 := Hhf0.out
        have hf1 := Hhf1.out
        have hf2 := Hhf2.out
        have hf3 := Hhf3.out
        have hf4 := Hhf4.out
        have hf5 := Hhf5.out
        have hf6 := Hhf6.out
        have hf7 := Hhf7.out
        have hf8 := Hhf8.out
        have hS := HhS.out
        have hf10 := Hhf10.out
        have hU := HhU.out
        have hb := Hhb.out
        have hw := Hhw.out
        refine hK.out _ _ ?_
        exact .mk p99 p100 p101 p102 p103 (.int .i64 (jx : Nat)) (.pointer (some ⟨w.heap.size, jx, none⟩)) p106 p107 p108 rr (by simp only [Act.put, List.setIfInBounds_toArray, List.set_cons_zero, List.set_cons_succ]) (hb) (fun h => hf0 (up_back h (by decide))) (fun h => hf1 (up_back h (by decide))) (fun h => hf2 (up_back h (by decide))) (fun h => hf3 (up_back h (by decide))) (fun h => hf4 (up_back h (by decide))) (fun _ => rfl) (fun _ => rfl) (fun h => hf7 (up_back h (by decide))) (fun h => hf8 (up_back h (by decide))) (fun h => hS (up_back h (by decide))) (fun h => hf10 (up_back h (by decide))) (fun h => hU (up_back h (by decide)))
    refine StepsL.cons (k := 7) rfl (fun listed a1 w1 hI hn hw K hK => ?_) ?_
    · cases hI with | mk p99 p100 p101 p102 p103 p104 p105 p106 p107 p108 rr ea hb hf0 hf1 hf2 hf3 hf4 hf5 hf6 hf7 hf8 hS hf10 hU =>
        have e_f6 := hf6 (hw 6 (by decide))
        subst e_f6
        have kc := (hb.2.1 jx _ (get_reg0 r jx HJ.out.2.2.2.2.1 _)).1
        have Hhf0 := Lib.hid hf0
        have Hhf1 := Lib.hid hf1
        have Hhf2 := Lib.hid hf2
        have Hhf3 := Lib.hid hf3
        have Hhf4 := Lib.hid hf4
        have Hhf5 := Lib.hid hf5
        have Hhf6 := Lib.hid hf6
        have Hhf7 := Lib.hid hf7
        have Hhf8 := Lib.hid hf8
        have HhS := Lib.hid hS
        have Hhf10 := Lib.hid hf10
        have HhU := Lib.hid hU
        have Hhb := Lib.hid hb
        have Hhw := Lib.hid hw
        clear hf0 hf1 hf2 hf3 hf4 hf5 hf6 hf7 hf8 hS hf10 hU hb hw
        rw [ea]
        clear ea
        simp only [Act.put, List.setIfInBounds_toArray, List.set_cons_zero, List.set_cons_succ]
        go_simp
        have hf0 := Hhf0.out
        have hf1 := Hhf1.out
        have hf2 := Hhf2.out
        have hf3 := Hhf3.out
        have hf4 := Hhf4.out
        have hf5 := Hhf5.out
        have hf6 := Hhf6.out
        have hf7 := Hhf7.out
        have hf8 := Hhf8.out
        have hS := HhS.out
        have hf10 := Hhf10.out
        have hU := HhU.out
        have hb := Hhb.out
        have hw := Hhw.out
        refine hK.out _ _ ?_
        exact .mk p99 p100 p101 p102 p103 p104 (.pointer (some ⟨w.heap.size, jx, none⟩)) (.int .i64 (r jx)) p107 p108 rr (by simp only [Act.put, List.setIfInBounds_toArray, List.set_cons_zero, List.set_cons_succ]) (hb) (fun h => hf0 (up_back h (by decide))) (fun h => hf1 (up_back h (by decide))) (fun h => hf2 (up_back h (by decide))) (fun h => hf3 (up_back h (by decide))) (fun h => hf4 (up_back h (by decide))) (fun h => hf5 (up_back h (by decide))) (fun _ => rfl) (fun _ => rfl) (fun h => hf8 (up_back h (by decide))) (fun h => hS (up_back h (by decide))) (fun h => hf10 (up_back h (by decide))) (fun h => hU (up_back h (by decide)))
    refine StepsL.cons (k := 8) rfl (fun listed a1 w1 hI hn hw K hK => ?_) ?_
    · cases hI with | mk p99 p100 p101 p102 p103 p104 p105 p106 p107 p108 rr ea hb hf0 hf1 hf2 hf3 hf4 hf5 hf6 hf7 hf8 hS hf10 hU =>
        have e_f0 := hf0 (hw 0 (by decide))
        subst e_f0
        have i1 := HJ.out.1
        have i2 := HJ.out.2.1
        have i3 := HJ.out.2.2.1
        have i4 := HJ.out.2.2.2.1
        have Hhf0 := Lib.hid hf0
        have Hhf1 := Lib.hid hf1
        have Hhf2 := Lib.hid hf2
        have Hhf3 := Lib.hid hf3
        have Hhf4 := Lib.hid hf4
        have Hhf5 := Lib.hid hf5
        have Hhf6 := Lib.hid hf6
        have Hhf7 := Lib.hid hf7
        have Hhf8 := Lib.hid hf8
        have HhS := Lib.hid hS
        have Hhf10 := Lib.hid hf10
        have HhU := Lib.hid hU
        have Hhb := Lib.hid hb
        have Hhw := Lib.hid hw
        clear hf0 hf1 hf2 hf3 hf4 hf5 hf6 hf7 hf8 hS hf10 hU hb hw
        rw [ea]
        clear ea
        simp only [Act.put, List.setIfInBounds_toArray, List.set_cons_zero, List.set_cons_succ]
        go_simp
        have hf0 := Hhf0.out
        have hf1 := Hhf1.out
        have hf2 := Hhf2.out
        have hf3 := Hhf3.out
        have hf4 := Hhf4.out
        have hf5 := Hhf5.out
        have hf6 := Hhf6.out
        have hf7 := Hhf7.out
        have hf8 := Hhf8.out
        have hS := HhS.out
        have hf10 := Hhf10.out
        have hU := HhU.out
        have hb := Hhb.out
        have hw := Hhw.out
        refine hK.out _ _ ?_
        exact .mk (.int .i64 (jx : Nat)) p100 p101 p102 p103 p104 p105 p106 (.pointer (some ⟨U12.heap.size, jx, none⟩)) p108 rr (by simp only [Act.put, List.setIfInBounds_toArray, List.set_cons_zero, List.set_cons_succ]) (hb) (fun _ => rfl) (fun h => hf1 (up_back h (by decide))) (fun h => hf2 (up_back h (by decide))) (fun h => hf3 (up_back h (by decide))) (fun h => hf4 (up_back h (by decide))) (fun h => hf5 (up_back h (by decide))) (fun h => hf6 (up_back h (by decide))) (fun h => hf7 (up_back h (by decide))) (fun _ => rfl) (fun h => hS (up_back h (by decide))) (fun h => hf10 (up_back h (by decide))) (fun h => hU (up_back h (by decide)))
    refine StepsL.cons (k := 9) rfl (fun listed a1 w1 hI hn hw K hK => ?_) ?_
    · cases hI with | mk p99 p100 p101 p102 p103 p104 p105 p106 p107 p108 rr ea hb hf0 hf1 hf2 hf3 hf4 hf5 hf6 hf7 hf8 hS hf10 hU =>
        have e_f4 := hf4 (hw 4 (by decide))
        have e_f8 := hf8 (hw 8 (by decide))
        subst e_f4 e_f8
        obtain ⟨yc, gc⟩ := hb.2.2.1 jx _ (get_reg0 rr jx HJ.out.2.2.2.2.1 _)
        have hne := HJ.out.2.2.2.2.2.2.1
        have hgv := HJ.out.2.2.2.2.2.2.2
        have Hhf0 := Lib.hid hf0
        have Hhf1 := Lib.hid hf1
        have Hhf2 := Lib.hid hf2
        have Hhf3 := Lib.hid hf3
        have Hhf4 := Lib.hid hf4
        have Hhf5 := Lib.hid hf5
        have Hhf6 := Lib.hid hf6
        have Hhf7 := Lib.hid hf7
        have Hhf8 := Lib.hid hf8
        have HhS := Lib.hid hS
        have Hhf10 := Lib.hid hf10
        have HhU := Lib.hid hU
        have Hhb := Lib.hid hb
        have Hhw := Lib.hid hw
        clear hf0 hf1 hf2 hf3 hf4 hf5 hf6 hf7 hf8 hS hf10 hU hb hw
        rw [ea]
        clear ea
        simp only [Act.put, List.setIfInBounds_toArray, List.set_cons_zero, List.set_cons_succ]
        go_simp
        have hf0 := Hhf0.out
        have hf1 := Hhf1.out
        have hf2 := Hhf2.out
        have hf3 := Hhf3.out
        have hf4 := Hhf4.out
        have hf5 := Hhf5.out
        have hf6 := Hhf6.out
        have hf7 := Hhf7.out
        have hf8 := Hhf8.out
        have hS := HhS.out
        have hf10 := Hhf10.out
        have hU := HhU.out
        have hb := Hhb.out
        have hw := Hhw.out
        refine hK.out _ _ ?_
        exact .mk p99 p100 p101 p102 (.int .i64 (r jy)) p104 p105 p106 (.pointer (some ⟨U12.heap.size, jx, none⟩)) p108 (setR rr jx (r jy)) (by simp only [Act.put, List.setIfInBounds_toArray, List.set_cons_zero, List.set_cons_succ]) (⟨hb.1.setCell (p := ⟨U12.heap.size, jx, none⟩) (Nat.le_refl _) _, varN_other hb.2.1 (by omega) _, by have h := varN_set hb.2.2.1 jx (by simp; have := HJ.out.2.2.2.2.1; omega) (.int .i64 (r jy)); rw [set_reg0 rr jx HJ.out.2.2.2.2.1] at h; exact h, fun k h1 h2 => by rw [setR_nat, if_neg (by omega)]; exact hb.2.2.2 k h1 h2⟩) (fun h => hf0 (up_back h (by decide))) (fun h => hf1 (up_back h (by decide))) (fun h => hf2 (up_back h (by decide))) (fun h => hf3 (up_back h (by decide))) (fun _ => rfl) (fun h => hf5 (up_back h (by decide))) (fun h => hf6 (up_back h (by decide))) (fun h => hf7 (up_back h (by decide))) (fun _ => rfl) (fun _ => by rw [setR_nat, if_pos rfl]) (fun h => hf10 (up_back h (by decide))) (fun h => by rw [setR_nat, if_neg (by omega)]; exact hU (up_back h (by decide)))
    refine StepsL.cons (k := 10) rfl (fun listed a1 w1 hI hn hw K hK => ?_) ?_
    · cases hI with | mk p99 p100 p101 p102 p103 p104 p105 p106 p107 p108 rr ea hb hf0 hf1 hf2 hf3 hf4 hf5 hf6 hf7 hf8 hS hf10 hU =>
        have e_f1 := hf1 (hw 1 (by decide))
        subst e_f1
        have i1 := HJ.out.1
        have i2 := HJ.out.2.1
        have i3 := HJ.out.2.2.1
        have i4 := HJ.out.2.2.2.1
        have Hhf0 := Lib.hid hf0
        have Hhf1 := Lib.hid hf1
        have Hhf2 := Lib.hid hf2
        have Hhf3 := Lib.hid hf3
        have Hhf4 := Lib.hid hf4
        have Hhf5 := Lib.hid hf5
        have Hhf6 := Lib.hid hf6
        have Hhf7 := Lib.hid hf7
        have Hhf8 := Lib.hid hf8
        have HhS := Lib.hid hS
        have Hhf10 := Lib.hid hf10
        have HhU := Lib.hid hU
        have Hhb := Lib.hid hb
        have Hhw := Lib.hid hw
        clear hf0 hf1 hf2 hf3 hf4 hf5 hf6 hf7 hf8 hS hf10 hU hb hw
        rw [ea]
        clear ea
        simp only [Act.put, List.setIfInBounds_toArray, List.set_cons_zero, List.set_cons_succ]
        go_simp
        have hf0 := Hhf0.out
        have hf1 := Hhf1.out
        have hf2 := Hhf2.out
        have hf3 := Hhf3.out
        have hf4 := Hhf4.out
        have hf5 := Hhf5.out
        have hf6 := Hhf6.out
        have hf7 := Hhf7.out
        have hf8 := Hhf8.out
        have hS := HhS.out
        have hf10 := Hhf10.out
        have hU := HhU.out
        have hb := Hhb.out
        have hw := Hhw.out
        refine hK.out _ _ ?_
        exact .mk p99 (.int .i64 (jy : Nat)) p101 p102 p103 p104 p105 p106 p107 (.pointer (some ⟨U12.heap.size, jy, none⟩)) rr (by simp only [Act.put, List.setIfInBounds_toArray, List.set_cons_zero, List.set_cons_succ]) (hb) (fun h => hf0 (up_back h (by decide))) (fun _ => rfl) (fun h => hf2 (up_back h (by decide))) (fun h => hf3 (up_back h (by decide))) (fun h => hf4 (up_back h (by decide))) (fun h => hf5 (up_back h (by decide))) (fun h => hf6 (up_back h (by decide))) (fun h => hf7 (up_back h (by decide))) (fun h => hf8 (up_back h (by decide))) (fun h => hS (up_back h (by decide))) (fun _ => rfl) (fun h => hU (up_back h (by decide)))
    refine StepsL.cons (k := 11) rfl (fun listed a1 w1 hI hn hw K hK => ?_) ?_
    · cases hI with | mk p99 p100 p101 p102 p103 p104 p105 p106 p107 p108 rr ea hb hf0 hf1 hf2 hf3 hf4 hf5 hf6 hf7 hf8 hS hf10 hU =>
        have e_f7 := hf7 (hw 7 (by decide))
        have e_f10 := hf10 (hw 10 (by decide))
        subst e_f7 e_f10
        obtain ⟨yc, gc⟩ := hb.2.2.1 jy _ (get_reg0 rr jy HJ.out.2.2.2.2.2.1 _)
        have hne := HJ.out.2.2.2.2.2.2.1
        have hgv := HJ.out.2.2.2.2.2.2.2
        have Hhf0 := Lib.hid hf0
        have Hhf1 := Lib.hid hf1
        have Hhf2 := Lib.hid hf2
        have Hhf3 := Lib.hid hf3
        have Hhf4 := Lib.hid hf4
        have Hhf5 := Lib.hid hf5
        have Hhf6 := Lib.hid hf6
        have Hhf7 := Lib.hid hf7
        have Hhf8 := Lib.hid hf8
        have HhS := Lib.hid hS
        have Hhf10 := Lib.hid hf10
        have HhU := Lib.hid hU
        have Hhb := Lib.hid hb
        have Hhw := Lib.hid hw
        clear hf0 hf1 hf2 hf3 hf4 hf5 hf6 hf7 hf8 hS hf10 hU hb hw
        rw [ea]
        clear ea
        simp only [Act.put, List.setIfInBounds_toArray, List.set_cons_zero, List.set_cons_succ]
        go_simp
        have hf0 := Hhf0.out
        have hf1 := Hhf1.out
        have hf2 := Hhf2.out
        have hf3 := Hhf3.out
        have hf4 := Hhf4.out
        have hf5 := Hhf5.out
        have hf6 := Hhf6.out
        have hf7 := Hhf7.out
        have hf8 := Hhf8.out
        have hS := HhS.out
        have hf10 := Hhf10.out
        have hU := HhU.out
        have hb := Hhb.out
        have hw := Hhw.out
        refine hK.out _ _ ?_
        exact .mk p99 p100 p101 p102 p103 p104 p105 (.int .i64 (r jx)) p107 (.pointer (some ⟨U12.heap.size, jy, none⟩)) (setR rr jy (r jx)) (by simp only [Act.put, List.setIfInBounds_toArray, List.set_cons_zero, List.set_cons_succ]) (⟨hb.1.setCell (p := ⟨U12.heap.size, jy, none⟩) (Nat.le_refl _) _, varN_other hb.2.1 (by omega) _, by have h := varN_set hb.2.2.1 jy (by simp; have := HJ.out.2.2.2.2.2.1; omega) (.int .i64 (r jx)); rw [set_reg0 rr jy HJ.out.2.2.2.2.2.1] at h; exact h, fun k h1 h2 => by rw [setR_nat, if_neg (by omega)]; exact hb.2.2.2 k h1 h2⟩) (fun h => hf0 (up_back h (by decide))) (fun h => hf1 (up_back h (by decide))) (fun h => hf2 (up_back h (by decide))) (fun h => hf3 (up_back h (by decide))) (fun h => hf4 (up_back h (by decide))) (fun h => hf5 (up_back h (by decide))) (fun h => hf6 (up_back h (by decide))) (fun _ => rfl) (fun h => hf8 (up_back h (by decide))) (fun h => by rw [setR_nat, if_neg (by omega)]; exact hS (up_back h (by decide))) (fun _ => rfl) (fun _ => by rw [setR_nat, if_pos rfl])
    exact StepsL.nil
  · intro listed a1 w14 hI hu
    cases hI with | mk p99 p100 p101 p102 p103 p104 p105 p106 p107 p108 rr ea hb hf0 hf1 hf2 hf3 hf4 hf5 hf6 hf7 hf8 hS hf10 hU =>
      have HR9 := Lib.hid (show (∀ k, k ≠ jx → k ≠ jy → rr k = r k) ∧ rr jx = r jy ∧ rr jy = r jx from ⟨hb.2.2.2, hS (hu 9), hU (hu 11)⟩)
      have HB14 := Lib.hid (HB13.out.trans (hb.1.mono (by have := OGV.out; omega)))
      have G14 := Lib.hid (show VarN w14 w.heap.size [.int .i64 (r 0), .int .i64 (r 1), .int .i64 (r 2), .int .i64 (r 3), .int .i64 (r 4), .int .i64 (r 5), .int .i64 (r 6), .int .i64 (r 7)] from varN_low hb.1 OGV.out G13.out)
      have T14 := Lib.hid (show VarN w14 W.heap.size [.int .i64 0, .int .i64 (r 0), .int .i64 (r 1), .int .i64 (r 2), .int .i64 (r 3), .int .i64 (r 4), .int .i64 (r 5), .int .i64 (r 6), .int .i64 (r 7), .slice none 0 0, .int .i64 0, .int .i64 0, .slice none 0 0] from varN_low hb.1 OTV.out T13.out)
      have S14 := Lib.hid (show VarN w14 v2.heap.size [.int .i64 3, .int .i64 (x3 0), .int .i64 (x3 1), .int .i64 (x3 2), .int .i64 (x3 3), .int .i64 (x3 4), .int .i64 (x3 5), .int .i64 (x3 6), .int .i64 (x3 7), .slice fa11 0 fc11, .int .i64 0, .int .i64 0, .slice la11 0 lc11] from varN_low hb.1 OSV.out S13.out)
      have V14 := Lib.hid hb.2.2.1
      clear hf0 hf1 hf2 hf3 hf4 hf5 hf6 hf7 hf8 hS hf10 hU hb hu HRG9 HWV9 G13 T13 S13 Vx HB13
      rw [ea]
      clear ea
      simp only [Act.put, List.setIfInBounds_toArray, List.set_cons_zero, List.set_cons_succ]
      have hq1 : eqR x3 rr = true := by rw [← Hx3.out, ← Hx2.out, ← Hx1.out]; exact xors_math HJ8.out.1 HJ8.out.2.1 HJ8.out.2.2 HWF.out HR9.out.1 HR9.out.2.1 HR9.out.2.2
      have qe := fun w => eq_regs x3 rr w
      rw [hq1] at qe
      clear hq1
      have ka0 : w14.cell? ⟨v2.heap.size, 0, none⟩ = some (.int .i64 3) := (S14.out 0 _ rfl).1
      have ka1 : w14.cell? ⟨v2.heap.size, 1, none⟩ = some (.int .i64 (x3 0)) := (S14.out 1 _ rfl).1
      have ka2 : w14.cell? ⟨v2.heap.size, 2, none⟩ = some (.int .i64 (x3 1)) := (S14.out 2 _ rfl).1
      have ka3 : w14.cell? ⟨v2.heap.size, 3, none⟩ = some (.int .i64 (x3 2)) := (S14.out 3 _ rfl).1
      have ka4 : w14.cell? ⟨v2.heap.size, 4, none⟩ = some (.int .i64 (x3 3)) := (S14.out 4 _ rfl).1
      have ka5 : w14.cell? ⟨v2.heap.size, 5, none⟩ = some (.int .i64 (x3 4)) := (S14.out 5 _ rfl).1
      have ka6 : w14.cell? ⟨v2.heap.size, 6, none⟩ = some (.int .i64 (x3 5)) := (S14.out 6 _ rfl).1
      have ka7 : w14.cell? ⟨v2.heap.size, 7, none⟩ = some (.int .i64 (x3 6)) := (S14.out 7 _ rfl).1
      have ka8 : w14.cell? ⟨v2.heap.size, 8, none⟩ = some (.int .i64 (x3 7)) := (S14.out 8 _ rfl).1
      have kb0 : w14.cell? ⟨U12.heap.size, 0, none⟩ = some (.int .i64 (rr 0)) := (V14.out 0 _ rfl).1
      have kb1 : w14.cell? ⟨U12.heap.size, 1, none⟩ = some (.int .i64 (rr 1)) := (V14.out 1 _ rfl).1
      have kb2 : w14.cell? ⟨U12.heap.size, 2, none⟩ = some (.int .i64 (rr 2)) := (V14.out 2 _ rfl).1
      have kb3 : w14.cell? ⟨U12.heap.size, 3, none⟩ = some (.int .i64 (rr 3)) := (V14.out 3 _ rfl).1
      have kb4 : w14.cell? ⟨U12.heap.size, 4, none⟩ = some (.int .i64 (rr 4)) := (V14.out 4 _ rfl).1
      have kb5 : w14.cell? ⟨U12.heap.size, 5, none⟩ = some (.int .i64 (rr 5)) := (V14.out 5 _ rfl).1
      have kb6 : w14.cell? ⟨U12.heap.size, 6, none⟩ = some (.int .i64 (rr 6)) := (V14.out 6 _ rfl).1
      have kb7 : w14.cell? ⟨U12.heap.size, 7, none⟩ = some (.int .i64 (rr 7)) := (V14.out 7 _ rfl).1
      go_upto_region 16 with fail
      clear qe ka0 ka1 ka2 ka3 ka4 ka5 ka6 ka7 ka8 kb0 kb1 kb2 kb3 kb4 kb5 kb6 kb7
      obtain ⟨l1, hl1⟩ : ∃ s, setR r jx (valR 9 r jx jy) = s := ⟨_, rfl⟩
      have Hl1 := Lib.hid hl1
      clear hl1
      go_wp2_with (first | (refine wpList_load_mid rfl 27 _ rfl W.heap.size 0 rfl [.int .i64 0, .int .i64 (r 0), .int .i64 (r 1), .int .i64 (r 2), .int .i64 (r 3), .int .i64 (r 4), .int .i64 (r 5), .int .i64 (r 6), .int .i64 (r 7), .slice none 0 0, .int .i64 0, .int .i64 0, .slice none 0 0] _ (varN_range T14.out) Try.underlying27 rfl (by kernel_rfl) ?_))
      have h0 := apply_any (reT 0 r) 0 (9, (jx : Int), (jx : Int), (jy : Int)) none none 0 0 0 0 w14 (thF_nil cap_nil cap_nil)
      rw [(re_val (pc := 0) (o := 9) (r := r) (a := jx) (b := jx) (c := jy) (by decide) (by decide) HJ8.out.1 HJ8.out.1 HJ8.out.2.1).1, (re_val (pc := 0) (o := 9) (r := r) (a := jx) (b := jx) (c := jy) (by decide) (by decide) HJ8.out.1 HJ8.out.1 HJ8.out.2.1).2, Hl1.out] at h0
      refine h0.mono ?_
      clear h0
      rintro e v15 ⟨fa15, fc15, la15, lc15, rfl, Q1, hb⟩
      have HC15 : Hid (Cap fa15 0 fc15 ∧ Cap la15 0 lc15) := ⟨Q1.fcap, Q1.lcap⟩
      clear Q1
      have HB15 := Lib.hid (below_from HB14.out hb)
      have G15 := Lib.hid (varN_B hb G14.out)
      have T15 := Lib.hid (varN_B hb T14.out)
      have S15 := Lib.hid (varN_B hb S14.out)
      have V15 := Lib.hid (varN_B hb V14.out)
      clear hb HB14 G14 T14 S14 V14
      have OGL := Lib.hid (show w.heap.size < v15.heap.size from varN_lt G15.out (by simp))
      have OTL := Lib.hid (show W.heap.size < v15.heap.size from varN_lt T15.out (by simp))
      have OSL := Lib.hid (show v2.heap.size < v15.heap.size from varN_lt S15.out (by simp))
      have OVL := Lib.hid (show U12.heap.size < v15.heap.size from varN_lt V15.out (by simp))
      go_upto_region 17 with (first | (refine wpList_store_var rfl 27 _ _ rfl v15.heap.size #[.int .i64 1, .int .i64 (l1 0), .int .i64 (l1 1), .int .i64 (l1 2), .int .i64 (l1 3), .int .i64 (l1 4), .int .i64 (l1 5), .int .i64 (l1 6), .int .i64 (l1 7), .slice fa15 0 fc15, .int .i64 0, .int .i64 0, .slice la15 0 lc15] rfl rfl _ (varN_new [.int .i64 0, .int .i64 0, .int .i64 0, .int .i64 0, .int .i64 0, .int .i64 0, .int .i64 0, .int .i64 0, .int .i64 0, .slice none 0 0, .int .i64 0, .int .i64 0, .slice none 0 0] v15.heap.size rfl) rfl (by kernel_rfl) (by simp [Value.oneCell']) ?_; intro U HU))
      obtain ⟨U16, hUU⟩ : ∃ Z, Z = U := ⟨_, rfl⟩
      rw [← hUU] at HU ⊢
      clear hUU U
      have hb : Below v15.heap.size v15 U16 := by rw [HU.out]; exact below_setN (Nat.le_refl _) ((Below.refl _ _).alloc (Nat.le_refl _) _)
      have Lx := Lib.hid (show VarN U16 v15.heap.size [.int .i64 1, .int .i64 (l1 0), .int .i64 (l1 1), .int .i64 (l1 2), .int .i64 (l1 3), .int .i64 (l1 4), .int .i64 (l1 5), .int .i64 (l1 6), .int .i64 (l1 7), .slice fa15 0 fc15, .int .i64 0, .int .i64 0, .slice la15 0 lc15] by rw [HU.out]; exact varN_all (xs := [.int .i64 1, .int .i64 (l1 0), .int .i64 (l1 1), .int .i64 (l1 2), .int .i64 (l1 3), .int .i64 (l1 4), .int .i64 (l1 5), .int .i64 (l1 6), .int .i64 (l1 7), .slice fa15 0 fc15, .int .i64 0, .int .i64 0, .slice la15 0 lc15]) (varN_new [.int .i64 0, .int .i64 0, .int .i64 0, .int .i64 0, .int .i64 0, .int .i64 0, .int .i64 0, .int .i64 0, .int .i64 0, .slice none 0 0, .int .i64 0, .int .i64 0, .slice none 0 0] v15.heap.size rfl) rfl)
      clear HU
      have HB16 := Lib.hid (below_from HB15.out hb)
      have G16 := Lib.hid (varN_B hb G15.out)
      have T16 := Lib.hid (varN_B hb T15.out)
      have S16 := Lib.hid (varN_B hb S15.out)
      have V16 := Lib.hid (varN_B hb V15.out)
      clear hb HB15 G15 T15 S15 V15
      obtain ⟨l2, hl2⟩ : ∃ s, setR r jx (valR 9 r jy jx) = s := ⟨_, rfl⟩
      have Hl2 := Lib.hid hl2
      clear hl2
      go_wp2_with (first | (refine wpList_load_mid rfl 27 _ rfl W.heap.size 0 rfl [.int .i64 0, .int .i64 (r 0), .int .i64 (r 1), .int .i64 (r 2), .int .i64 (r 3), .int .i64 (r 4), .int .i64 (r 5), .int .i64 (r 6), .int .i64 (r 7), .slice none 0 0, .int .i64 0, .int .i64 0, .slice none 0 0] _ (varN_range T16.out) Try.underlying27 rfl (by kernel_rfl) ?_))
      have h0 := apply_any (reT 0 r) 0 (9, (jx : Int), (jy : Int), (jx : Int)) none none 0 0 0 0 U16 (thF_nil cap_nil cap_nil)
      rw [(re_val (pc := 0) (o := 9) (r := r) (a := jx) (b := jy) (c := jx) (by decide) (by decide) HJ8.out.1 HJ8.out.2.1 HJ8.out.1).1, (re_val (pc := 0) (o := 9) (r := r) (a := jx) (b := jy) (c := jx) (by decide) (by decide) HJ8.out.1 HJ8.out.2.1 HJ8.out.1).2, Hl2.out] at h0
      refine h0.mono ?_
      clear h0
      rintro e v17 ⟨fa17, fc17, la17, lc17, rfl, Q1, hb⟩
      have HC17 : Hid (Cap fa17 0 fc17 ∧ Cap la17 0 lc17) := ⟨Q1.fcap, Q1.lcap⟩
      clear Q1
      have HB17 := Lib.hid (below_from HB16.out hb)
      have G17 := Lib.hid (varN_B hb G16.out)
      have T17 := Lib.hid (varN_B hb T16.out)
      have S17 := Lib.hid (varN_B hb S16.out)
      have V17 := Lib.hid (varN_B hb V16.out)
      have L17 := Lib.hid (varN_B hb Lx.out)
      clear hb HB16 G16 T16 S16 V16 Lx
      have OGM := Lib.hid (show w.heap.size < v17.heap.size from varN_lt G17.out (by simp))
      have OTM := Lib.hid (show W.heap.size < v17.heap.size from varN_lt T17.out (by simp))
      have OSM := Lib.hid (show v2.heap.size < v17.heap.size from varN_lt S17.out (by simp))
      have OVM := Lib.hid (show U12.heap.size < v17.heap.size from varN_lt V17.out (by simp))
      have OLM := Lib.hid (show v15.heap.size < v17.heap.size from varN_lt L17.out (by simp))
      go_upto_region 18 with (first | (refine wpList_store_var rfl 27 _ _ rfl v17.heap.size #[.int .i64 1, .int .i64 (l2 0), .int .i64 (l2 1), .int .i64 (l2 2), .int .i64 (l2 3), .int .i64 (l2 4), .int .i64 (l2 5), .int .i64 (l2 6), .int .i64 (l2 7), .slice fa17 0 fc17, .int .i64 0, .int .i64 0, .slice la17 0 lc17] rfl rfl _ (varN_new [.int .i64 0, .int .i64 0, .int .i64 0, .int .i64 0, .int .i64 0, .int .i64 0, .int .i64 0, .int .i64 0, .int .i64 0, .slice none 0 0, .int .i64 0, .int .i64 0, .slice none 0 0] v17.heap.size rfl) rfl (by kernel_rfl) (by simp [Value.oneCell']) ?_; intro U HU))
      obtain ⟨U18, hUU⟩ : ∃ Z, Z = U := ⟨_, rfl⟩
      rw [← hUU] at HU ⊢
      clear hUU U
      have hb : Below v17.heap.size v17 U18 := by rw [HU.out]; exact below_setN (Nat.le_refl _) ((Below.refl _ _).alloc (Nat.le_refl _) _)
      have Mx := Lib.hid (show VarN U18 v17.heap.size [.int .i64 1, .int .i64 (l2 0), .int .i64 (l2 1), .int .i64 (l2 2), .int .i64 (l2 3), .int .i64 (l2 4), .int .i64 (l2 5), .int .i64 (l2 6), .int .i64 (l2 7), .slice fa17 0 fc17, .int .i64 0, .int .i64 0, .slice la17 0 lc17] by rw [HU.out]; exact varN_all (xs := [.int .i64 1, .int .i64 (l2 0), .int .i64 (l2 1), .int .i64 (l2 2), .int .i64 (l2 3), .int .i64 (l2 4), .int .i64 (l2 5), .int .i64 (l2 6), .int .i64 (l2 7), .slice fa17 0 fc17, .int .i64 0, .int .i64 0, .slice la17 0 lc17]) (varN_new [.int .i64 0, .int .i64 0, .int .i64 0, .int .i64 0, .int .i64 0, .int .i64 0, .int .i64 0, .int .i64 0, .int .i64 0, .slice none 0 0, .int .i64 0, .int .i64 0, .slice none 0 0] v17.heap.size rfl) rfl)
      clear HU
      have HB18 := Lib.hid (below_from HB17.out hb)
      have G18 := Lib.hid (varN_B hb G17.out)
      have T18 := Lib.hid (varN_B hb T17.out)
      have S18 := Lib.hid (varN_B hb S17.out)
      have V18 := Lib.hid (varN_B hb V17.out)
      have L18 := Lib.hid (varN_B hb L17.out)
      clear hb HB17 G17 T17 S17 V17 L17
      have kl := (L18.out (1 + jx) _ (get_reg l1 jx HJ8.out.1 _ _)).1
      have km := (Mx.out (1 + jx) _ (get_reg l2 jx HJ8.out.1 _ _)).1
      have kgx := (G18.out jx _ (get_reg0 r jx HJ8.out.1 _)).1
      have kgy := (G18.out jy _ (get_reg0 r jy HJ8.out.2.1 _)).1
      have hl1 : l1 jx = if r jx < r jy then 1 else 0 := by rw [← Hl1.out, setR_nat, if_pos rfl]; rfl
      have hl2 : l2 jx = if r jy < r jx then 1 else 0 := by rw [← Hl2.out, setR_nat, if_pos rfl]; rfl
      rw [hl1] at kl
      rw [hl2] at km
      clear hl1 hl2
      rcases (show r jx < r jy ∨ r jy < r jx ∨ r jx = r jy by omega) with hc | hc | hc
      · skip
        rw [if_pos hc] at kl
        rw [if_neg (by omega)] at km
        have qq : (r jx == r jy) = false := by simp; omega
        clear hc
        go_wp2
        go_quiet (fail)
        clear kl km kgx kgy qq
        have HB19 := Lib.hid (below_drews HB18.out nq)
        have G19 := Lib.hid (show VarN (U18.drewN nq) w.heap.size [.int .i64 (r 0), .int .i64 (r 1), .int .i64 (r 2), .int .i64 (r 3), .int .i64 (r 4), .int .i64 (r 5), .int .i64 (r 6), .int .i64 (r 7)] from G18.out)
        have T19 := Lib.hid (show VarN (U18.drewN nq) W.heap.size [.int .i64 0, .int .i64 (r 0), .int .i64 (r 1), .int .i64 (r 2), .int .i64 (r 3), .int .i64 (r 4), .int .i64 (r 5), .int .i64 (r 6), .int .i64 (r 7), .slice none 0 0, .int .i64 0, .int .i64 0, .slice none 0 0] from T18.out)
        have S19 := Lib.hid (show VarN (U18.drewN nq) v2.heap.size [.int .i64 3, .int .i64 (x3 0), .int .i64 (x3 1), .int .i64 (x3 2), .int .i64 (x3 3), .int .i64 (x3 4), .int .i64 (x3 5), .int .i64 (x3 6), .int .i64 (x3 7), .slice fa11 0 fc11, .int .i64 0, .int .i64 0, .slice la11 0 lc11] from S18.out)
        have V19 := Lib.hid (show VarN (U18.drewN nq) U12.heap.size [.int .i64 (rr 0), .int .i64 (rr 1), .int .i64 (rr 2), .int .i64 (rr 3), .int .i64 (rr 4), .int .i64 (rr 5), .int .i64 (rr 6), .int .i64 (rr 7)] from V18.out)
        have L19 := Lib.hid (show VarN (U18.drewN nq) v15.heap.size [.int .i64 1, .int .i64 (l1 0), .int .i64 (l1 1), .int .i64 (l1 2), .int .i64 (l1 3), .int .i64 (l1 4), .int .i64 (l1 5), .int .i64 (l1 6), .int .i64 (l1 7), .slice fa15 0 fc15, .int .i64 0, .int .i64 0, .slice la15 0 lc15] from L18.out)
        have M19 := Lib.hid (show VarN (U18.drewN nq) v17.heap.size [.int .i64 1, .int .i64 (l2 0), .int .i64 (l2 1), .int .i64 (l2 2), .int .i64 (l2 3), .int .i64 (l2 4), .int .i64 (l2 5), .int .i64 (l2 6), .int .i64 (l2 7), .slice fa17 0 fc17, .int .i64 0, .int .i64 0, .slice la17 0 lc17] from Mx.out)
        clear HB18 G18 T18 S18 V18 L18 Mx
        go_upto_region 20 with fail
        obtain ⟨p1, hp1⟩ : ∃ p : Int, brP 11 (r jx) = p := ⟨_, rfl⟩
        obtain ⟨p2, hp2⟩ : ∃ p : Int, brP 12 (r jx) = p := ⟨_, rfl⟩
        have Hp1 := Lib.hid hp1
        have Hp2 := Lib.hid hp2
        clear hp1 hp2
        go_wp2_with (first | (refine wpList_load_mid rfl 27 _ rfl W.heap.size 0 rfl [.int .i64 0, .int .i64 (r 0), .int .i64 (r 1), .int .i64 (r 2), .int .i64 (r 3), .int .i64 (r 4), .int .i64 (r 5), .int .i64 (r 6), .int .i64 (r 7), .slice none 0 0, .int .i64 0, .int .i64 0, .slice none 0 0] _ (varN_range T19.out) Try.underlying27 rfl (by kernel_rfl) ?_))
        have h0 := apply_any (reT 0 r) 0 (11, (jx : Int), 9, 0) none none 0 0 0 0 (U18.drewN nq) (thF_nil cap_nil cap_nil)
        rw [(re_br (o := 11) (r := r) (a := jx) (by decide) HJ8.out.1).1, (re_br (o := 11) (r := r) (a := jx) (by decide) HJ8.out.1).2, Hp1.out] at h0
        refine h0.mono ?_
        clear h0
        rintro e v20 ⟨fa20, fc20, la20, lc20, rfl, Q1, hb⟩
        have HC20 : Hid (Cap fa20 0 fc20 ∧ Cap la20 0 lc20) := ⟨Q1.fcap, Q1.lcap⟩
        clear Q1
        have HB20 := Lib.hid (below_from HB19.out hb)
        have G20 := Lib.hid (varN_B hb G19.out)
        have T20 := Lib.hid (varN_B hb T19.out)
        have S20 := Lib.hid (varN_B hb S19.out)
        have V20 := Lib.hid (varN_B hb V19.out)
        have L20 := Lib.hid (varN_B hb L19.out)
        have M20 := Lib.hid (varN_B hb M19.out)
        clear hb HB19 G19 T19 S19 V19 L19 M19
        have OGZ := Lib.hid (show w.heap.size < v20.heap.size from varN_lt G20.out (by simp))
        have OTZ := Lib.hid (show W.heap.size < v20.heap.size from varN_lt T20.out (by simp))
        have OSZ := Lib.hid (show v2.heap.size < v20.heap.size from varN_lt S20.out (by simp))
        have OVZ := Lib.hid (show U12.heap.size < v20.heap.size from varN_lt V20.out (by simp))
        have OLZ := Lib.hid (show v15.heap.size < v20.heap.size from varN_lt L20.out (by simp))
        have OMZ := Lib.hid (show v17.heap.size < v20.heap.size from varN_lt M20.out (by simp))
        go_upto_region 21 with (first | (refine wpList_store_var rfl 27 _ _ rfl v20.heap.size #[.int .i64 p1, .int .i64 (r 0), .int .i64 (r 1), .int .i64 (r 2), .int .i64 (r 3), .int .i64 (r 4), .int .i64 (r 5), .int .i64 (r 6), .int .i64 (r 7), .slice fa20 0 fc20, .int .i64 0, .int .i64 0, .slice la20 0 lc20] rfl rfl _ (varN_new [.int .i64 0, .int .i64 0, .int .i64 0, .int .i64 0, .int .i64 0, .int .i64 0, .int .i64 0, .int .i64 0, .int .i64 0, .slice none 0 0, .int .i64 0, .int .i64 0, .slice none 0 0] v20.heap.size rfl) rfl (by kernel_rfl) (by simp [Value.oneCell']) ?_; intro U HU))
        obtain ⟨U21, hUU⟩ : ∃ Z, Z = U := ⟨_, rfl⟩
        rw [← hUU] at HU ⊢
        clear hUU U
        have hb : Below v20.heap.size v20 U21 := by rw [HU.out]; exact below_setN (Nat.le_refl _) ((Below.refl _ _).alloc (Nat.le_refl _) _)
        have Zx := Lib.hid (show VarN U21 v20.heap.size [.int .i64 p1, .int .i64 (r 0), .int .i64 (r 1), .int .i64 (r 2), .int .i64 (r 3), .int .i64 (r 4), .int .i64 (r 5), .int .i64 (r 6), .int .i64 (r 7), .slice fa20 0 fc20, .int .i64 0, .int .i64 0, .slice la20 0 lc20] by rw [HU.out]; exact varN_all (xs := [.int .i64 p1, .int .i64 (r 0), .int .i64 (r 1), .int .i64 (r 2), .int .i64 (r 3), .int .i64 (r 4), .int .i64 (r 5), .int .i64 (r 6), .int .i64 (r 7), .slice fa20 0 fc20, .int .i64 0, .int .i64 0, .slice la20 0 lc20]) (varN_new [.int .i64 0, .int .i64 0, .int .i64 0, .int .i64 0, .int .i64 0, .int .i64 0, .int .i64 0, .int .i64 0, .int .i64 0, .slice none 0 0, .int .i64 0, .int .i64 0, .slice none 0 0] v20.heap.size rfl) rfl)
        clear HU
        have HB21 := Lib.hid (below_from HB20.out hb)
        have G21 := Lib.hid (varN_B hb G20.out)
        have T21 := Lib.hid (varN_B hb T20.out)
        have S21 := Lib.hid (varN_B hb S20.out)
        have V21 := Lib.hid (varN_B hb V20.out)
        have L21 := Lib.hid (varN_B hb L20.out)
        have M21 := Lib.hid (varN_B hb M20.out)
        clear hb HB20 G20 T20 S20 V20 L20 M20
        go_wp2_with (first | (refine wpList_load_mid rfl 27 _ rfl W.heap.size 0 rfl [.int .i64 0, .int .i64 (r 0), .int .i64 (r 1), .int .i64 (r 2), .int .i64 (r 3), .int .i64 (r 4), .int .i64 (r 5), .int .i64 (r 6), .int .i64 (r 7), .slice none 0 0, .int .i64 0, .int .i64 0, .slice none 0 0] _ (varN_range T21.out) Try.underlying27 rfl (by kernel_rfl) ?_))
        have h0 := apply_any (reT 0 r) 0 (12, (jx : Int), 9, 0) none none 0 0 0 0 U21 (thF_nil cap_nil cap_nil)
        rw [(re_br (o := 12) (r := r) (a := jx) (by decide) HJ8.out.1).1, (re_br (o := 12) (r := r) (a := jx) (by decide) HJ8.out.1).2, Hp2.out] at h0
        refine h0.mono ?_
        clear h0
        rintro e v22 ⟨fa22, fc22, la22, lc22, rfl, Q1, hb⟩
        have HC22 : Hid (Cap fa22 0 fc22 ∧ Cap la22 0 lc22) := ⟨Q1.fcap, Q1.lcap⟩
        clear Q1
        have HB22 := Lib.hid (below_from HB21.out hb)
        have G22 := Lib.hid (varN_B hb G21.out)
        have T22 := Lib.hid (varN_B hb T21.out)
        have S22 := Lib.hid (varN_B hb S21.out)
        have V22 := Lib.hid (varN_B hb V21.out)
        have L22 := Lib.hid (varN_B hb L21.out)
        have M22 := Lib.hid (varN_B hb M21.out)
        have Z22 := Lib.hid (varN_B hb Zx.out)
        clear hb HB21 G21 T21 S21 V21 L21 M21 Zx
        have OGY := Lib.hid (show w.heap.size < v22.heap.size from varN_lt G22.out (by simp))
        have OTY := Lib.hid (show W.heap.size < v22.heap.size from varN_lt T22.out (by simp))
        have OSY := Lib.hid (show v2.heap.size < v22.heap.size from varN_lt S22.out (by simp))
        have OVY := Lib.hid (show U12.heap.size < v22.heap.size from varN_lt V22.out (by simp))
        have OLY := Lib.hid (show v15.heap.size < v22.heap.size from varN_lt L22.out (by simp))
        have OMY := Lib.hid (show v17.heap.size < v22.heap.size from varN_lt M22.out (by simp))
        have OZY := Lib.hid (show v20.heap.size < v22.heap.size from varN_lt Z22.out (by simp))
        go_upto_region 22 with (first | (refine wpList_store_var rfl 27 _ _ rfl v22.heap.size #[.int .i64 p2, .int .i64 (r 0), .int .i64 (r 1), .int .i64 (r 2), .int .i64 (r 3), .int .i64 (r 4), .int .i64 (r 5), .int .i64 (r 6), .int .i64 (r 7), .slice fa22 0 fc22, .int .i64 0, .int .i64 0, .slice la22 0 lc22] rfl rfl _ (varN_new [.int .i64 0, .int .i64 0, .int .i64 0, .int .i64 0, .int .i64 0, .int .i64 0, .int .i64 0, .int .i64 0, .int .i64 0, .slice none 0 0, .int .i64 0, .int .i64 0, .slice none 0 0] v22.heap.size rfl) rfl (by kernel_rfl) (by simp [Value.oneCell']) ?_; intro U HU))
        obtain ⟨U23, hUU⟩ : ∃ Z, Z = U := ⟨_, rfl⟩
        rw [← hUU] at HU ⊢
        clear hUU U
        have hb : Below v22.heap.size v22 U23 := by rw [HU.out]; exact below_setN (Nat.le_refl _) ((Below.refl _ _).alloc (Nat.le_refl _) _)
        have Yx := Lib.hid (show VarN U23 v22.heap.size [.int .i64 p2, .int .i64 (r 0), .int .i64 (r 1), .int .i64 (r 2), .int .i64 (r 3), .int .i64 (r 4), .int .i64 (r 5), .int .i64 (r 6), .int .i64 (r 7), .slice fa22 0 fc22, .int .i64 0, .int .i64 0, .slice la22 0 lc22] by rw [HU.out]; exact varN_all (xs := [.int .i64 p2, .int .i64 (r 0), .int .i64 (r 1), .int .i64 (r 2), .int .i64 (r 3), .int .i64 (r 4), .int .i64 (r 5), .int .i64 (r 6), .int .i64 (r 7), .slice fa22 0 fc22, .int .i64 0, .int .i64 0, .slice la22 0 lc22]) (varN_new [.int .i64 0, .int .i64 0, .int .i64 0, .int .i64 0, .int .i64 0, .int .i64 0, .int .i64 0, .int .i64 0, .int .i64 0, .slice none 0 0, .int .i64 0, .int .i64 0, .slice none 0 0] v22.heap.size rfl) rfl)
        clear HU
        have HB23 := Lib.hid (below_from HB22.out hb)
        have G23 := Lib.hid (varN_B hb G22.out)
        have T23 := Lib.hid (varN_B hb T22.out)
        have S23 := Lib.hid (varN_B hb S22.out)
        have V23 := Lib.hid (varN_B hb V22.out)
        have L23 := Lib.hid (varN_B hb L22.out)
        have M23 := Lib.hid (varN_B hb M22.out)
        have Z23 := Lib.hid (varN_B hb Z22.out)
        clear hb HB22 G22 T22 S22 V22 L22 M22 Z22
        have kz := (Z23.out 0 _ rfl).1
        have ky := (Yx.out 0 _ rfl).1
        have kgx := (G23.out jx _ (get_reg0 r jx HJ8.out.1 _)).1
        by_cases h0 : r jx = 0
        · have e1 : p1 = 9 := by rw [← Hp1.out, brP, if_pos rfl, if_pos h0]
          have e2 : p2 = 1 := by rw [← Hp2.out, brP, if_neg (by decide), if_pos h0]
          have q0 : (r jx == 0) = true := by simpa using h0
          rw [e1] at kz
          rw [e2] at ky
          clear e1 e2 h0
          go_wp2
          go_quiet (fail)
          go_wp2
          go_ret
          exact boolPost_mk rfl (below_drews HB23.out _)
        · have e1 : p1 = 1 := by rw [← Hp1.out, brP, if_pos rfl, if_neg h0]
          have e2 : p2 = 9 := by rw [← Hp2.out, brP, if_neg (by decide), if_neg h0]
          have q0 : (r jx == 0) = false := by simpa using h0
          rw [e1] at kz
          rw [e2] at ky
          clear e1 e2 h0
          go_wp2
          go_quiet (fail)
          go_wp2
          go_ret
          exact boolPost_mk rfl (below_drews HB23.out _)
      · skip
        rw [if_neg (by omega)] at kl
        rw [if_pos hc] at km
        have qq : (r jx == r jy) = false := by simp; omega
        clear hc
        go_wp2
        go_quiet (fail)
        clear kl km kgx kgy qq
        have HB19 := Lib.hid (below_drews HB18.out nq)
        have G19 := Lib.hid (show VarN (U18.drewN nq) w.heap.size [.int .i64 (r 0), .int .i64 (r 1), .int .i64 (r 2), .int .i64 (r 3), .int .i64 (r 4), .int .i64 (r 5), .int .i64 (r 6), .int .i64 (r 7)] from G18.out)
        have T19 := Lib.hid (show VarN (U18.drewN nq) W.heap.size [.int .i64 0, .int .i64 (r 0), .int .i64 (r 1), .int .i64 (r 2), .int .i64 (r 3), .int .i64 (r 4), .int .i64 (r 5), .int .i64 (r 6), .int .i64 (r 7), .slice none 0 0, .int .i64 0, .int .i64 0, .slice none 0 0] from T18.out)
        have S19 := Lib.hid (show VarN (U18.drewN nq) v2.heap.size [.int .i64 3, .int .i64 (x3 0), .int .i64 (x3 1), .int .i64 (x3 2), .int .i64 (x3 3), .int .i64 (x3 4), .int .i64 (x3 5), .int .i64 (x3 6), .int .i64 (x3 7), .slice fa11 0 fc11, .int .i64 0, .int .i64 0, .slice la11 0 lc11] from S18.out)
        have V19 := Lib.hid (show VarN (U18.drewN nq) U12.heap.size [.int .i64 (rr 0), .int .i64 (rr 1), .int .i64 (rr 2), .int .i64 (rr 3), .int .i64 (rr 4), .int .i64 (rr 5), .int .i64 (rr 6), .int .i64 (rr 7)] from V18.out)
        have L19 := Lib.hid (show VarN (U18.drewN nq) v15.heap.size [.int .i64 1, .int .i64 (l1 0), .int .i64 (l1 1), .int .i64 (l1 2), .int .i64 (l1 3), .int .i64 (l1 4), .int .i64 (l1 5), .int .i64 (l1 6), .int .i64 (l1 7), .slice fa15 0 fc15, .int .i64 0, .int .i64 0, .slice la15 0 lc15] from L18.out)
        have M19 := Lib.hid (show VarN (U18.drewN nq) v17.heap.size [.int .i64 1, .int .i64 (l2 0), .int .i64 (l2 1), .int .i64 (l2 2), .int .i64 (l2 3), .int .i64 (l2 4), .int .i64 (l2 5), .int .i64 (l2 6), .int .i64 (l2 7), .slice fa17 0 fc17, .int .i64 0, .int .i64 0, .slice la17 0 lc17] from Mx.out)
        clear HB18 G18 T18 S18 V18 L18 Mx
        go_upto_region 20 with fail
        obtain ⟨p1, hp1⟩ : ∃ p : Int, brP 11 (r jx) = p := ⟨_, rfl⟩
        obtain ⟨p2, hp2⟩ : ∃ p : Int, brP 12 (r jx) = p := ⟨_, rfl⟩
        have Hp1 := Lib.hid hp1
        have Hp2 := Lib.hid hp2
        clear hp1 hp2
        go_wp2_with (first | (refine wpList_load_mid rfl 27 _ rfl W.heap.size 0 rfl [.int .i64 0, .int .i64 (r 0), .int .i64 (r 1), .int .i64 (r 2), .int .i64 (r 3), .int .i64 (r 4), .int .i64 (r 5), .int .i64 (r 6), .int .i64 (r 7), .slice none 0 0, .int .i64 0, .int .i64 0, .slice none 0 0] _ (varN_range T19.out) Try.underlying27 rfl (by kernel_rfl) ?_))
        have h0 := apply_any (reT 0 r) 0 (11, (jx : Int), 9, 0) none none 0 0 0 0 (U18.drewN nq) (thF_nil cap_nil cap_nil)
        rw [(re_br (o := 11) (r := r) (a := jx) (by decide) HJ8.out.1).1, (re_br (o := 11) (r := r) (a := jx) (by decide) HJ8.out.1).2, Hp1.out] at h0
        refine h0.mono ?_
        clear h0
        rintro e v20 ⟨fa20, fc20, la20, lc20, rfl, Q1, hb⟩
        have HC20 : Hid (Cap fa20 0 fc20 ∧ Cap la20 0 lc20) := ⟨Q1.fcap, Q1.lcap⟩
        clear Q1
        have HB20 := Lib.hid (below_from HB19.out hb)
        have G20 := Lib.hid (varN_B hb G19.out)
        have T20 := Lib.hid (varN_B hb T19.out)
        have S20 := Lib.hid (varN_B hb S19.out)
        have V20 := Lib.hid (varN_B hb V19.out)
        have L20 := Lib.hid (varN_B hb L19.out)
        have M20 := Lib.hid (varN_B hb M19.out)
        clear hb HB19 G19 T19 S19 V19 L19 M19
        have OGZ := Lib.hid (show w.heap.size < v20.heap.size from varN_lt G20.out (by simp))
        have OTZ := Lib.hid (show W.heap.size < v20.heap.size from varN_lt T20.out (by simp))
        have OSZ := Lib.hid (show v2.heap.size < v20.heap.size from varN_lt S20.out (by simp))
        have OVZ := Lib.hid (show U12.heap.size < v20.heap.size from varN_lt V20.out (by simp))
        have OLZ := Lib.hid (show v15.heap.size < v20.heap.size from varN_lt L20.out (by simp))
        have OMZ := Lib.hid (show v17.heap.size < v20.heap.size from varN_lt M20.out (by simp))
        go_upto_region 21 with (first | (refine wpList_store_var rfl 27 _ _ rfl v20.heap.size #[.int .i64 p1, .int .i64 (r 0), .int .i64 (r 1), .int .i64 (r 2), .int .i64 (r 3), .int .i64 (r 4), .int .i64 (r 5), .int .i64 (r 6), .int .i64 (r 7), .slice fa20 0 fc20, .int .i64 0, .int .i64 0, .slice la20 0 lc20] rfl rfl _ (varN_new [.int .i64 0, .int .i64 0, .int .i64 0, .int .i64 0, .int .i64 0, .int .i64 0, .int .i64 0, .int .i64 0, .int .i64 0, .slice none 0 0, .int .i64 0, .int .i64 0, .slice none 0 0] v20.heap.size rfl) rfl (by kernel_rfl) (by simp [Value.oneCell']) ?_; intro U HU))
        obtain ⟨U21, hUU⟩ : ∃ Z, Z = U := ⟨_, rfl⟩
        rw [← hUU] at HU ⊢
        clear hUU U
        have hb : Below v20.heap.size v20 U21 := by rw [HU.out]; exact below_setN (Nat.le_refl _) ((Below.refl _ _).alloc (Nat.le_refl _) _)
        have Zx := Lib.hid (show VarN U21 v20.heap.size [.int .i64 p1, .int .i64 (r 0), .int .i64 (r 1), .int .i64 (r 2), .int .i64 (r 3), .int .i64 (r 4), .int .i64 (r 5), .int .i64 (r 6), .int .i64 (r 7), .slice fa20 0 fc20, .int .i64 0, .int .i64 0, .slice la20 0 lc20] by rw [HU.out]; exact varN_all (xs := [.int .i64 p1, .int .i64 (r 0), .int .i64 (r 1), .int .i64 (r 2), .int .i64 (r 3), .int .i64 (r 4), .int .i64 (r 5), .int .i64 (r 6), .int .i64 (r 7), .slice fa20 0 fc20, .int .i64 0, .int .i64 0, .slice la20 0 lc20]) (varN_new [.int .i64 0, .int .i64 0, .int .i64 0, .int .i64 0, .int .i64 0, .int .i64 0, .int .i64 0, .int .i64 0, .int .i64 0, .slice none 0 0, .int .i64 0, .int .i64 0, .slice none 0 0] v20.heap.size rfl) rfl)
        clear HU
        have HB21 := Lib.hid (below_from HB20.out hb)
        have G21 := Lib.hid (varN_B hb G20.out)
        have T21 := Lib.hid (varN_B hb T20.out)
        have S21 := Lib.hid (varN_B hb S20.out)
        have V21 := Lib.hid (varN_B hb V20.out)
        have L21 := Lib.hid (varN_B hb L20.out)
        have M21 := Lib.hid (varN_B hb M20.out)
        clear hb HB20 G20 T20 S20 V20 L20 M20
        go_wp2_with (first | (refine wpList_load_mid rfl 27 _ rfl W.heap.size 0 rfl [.int .i64 0, .int .i64 (r 0), .int .i64 (r 1), .int .i64 (r 2), .int .i64 (r 3), .int .i64 (r 4), .int .i64 (r 5), .int .i64 (r 6), .int .i64 (r 7), .slice none 0 0, .int .i64 0, .int .i64 0, .slice none 0 0] _ (varN_range T21.out) Try.underlying27 rfl (by kernel_rfl) ?_))
        have h0 := apply_any (reT 0 r) 0 (12, (jx : Int), 9, 0) none none 0 0 0 0 U21 (thF_nil cap_nil cap_nil)
        rw [(re_br (o := 12) (r := r) (a := jx) (by decide) HJ8.out.1).1, (re_br (o := 12) (r := r) (a := jx) (by decide) HJ8.out.1).2, Hp2.out] at h0
        refine h0.mono ?_
        clear h0
        rintro e v22 ⟨fa22, fc22, la22, lc22, rfl, Q1, hb⟩
        have HC22 : Hid (Cap fa22 0 fc22 ∧ Cap la22 0 lc22) := ⟨Q1.fcap, Q1.lcap⟩
        clear Q1
        have HB22 := Lib.hid (below_from HB21.out hb)
        have G22 := Lib.hid (varN_B hb G21.out)
        have T22 := Lib.hid (varN_B hb T21.out)
        have S22 := Lib.hid (varN_B hb S21.out)
        have V22 := Lib.hid (varN_B hb V21.out)
        have L22 := Lib.hid (varN_B hb L21.out)
        have M22 := Lib.hid (varN_B hb M21.out)
        have Z22 := Lib.hid (varN_B hb Zx.out)
        clear hb HB21 G21 T21 S21 V21 L21 M21 Zx
        have OGY := Lib.hid (show w.heap.size < v22.heap.size from varN_lt G22.out (by simp))
        have OTY := Lib.hid (show W.heap.size < v22.heap.size from varN_lt T22.out (by simp))
        have OSY := Lib.hid (show v2.heap.size < v22.heap.size from varN_lt S22.out (by simp))
        have OVY := Lib.hid (show U12.heap.size < v22.heap.size from varN_lt V22.out (by simp))
        have OLY := Lib.hid (show v15.heap.size < v22.heap.size from varN_lt L22.out (by simp))
        have OMY := Lib.hid (show v17.heap.size < v22.heap.size from varN_lt M22.out (by simp))
        have OZY := Lib.hid (show v20.heap.size < v22.heap.size from varN_lt Z22.out (by simp))
        go_upto_region 22 with (first | (refine wpList_store_var rfl 27 _ _ rfl v22.heap.size #[.int .i64 p2, .int .i64 (r 0), .int .i64 (r 1), .int .i64 (r 2), .int .i64 (r 3), .int .i64 (r 4), .int .i64 (r 5), .int .i64 (r 6), .int .i64 (r 7), .slice fa22 0 fc22, .int .i64 0, .int .i64 0, .slice la22 0 lc22] rfl rfl _ (varN_new [.int .i64 0, .int .i64 0, .int .i64 0, .int .i64 0, .int .i64 0, .int .i64 0, .int .i64 0, .int .i64 0, .int .i64 0, .slice none 0 0, .int .i64 0, .int .i64 0, .slice none 0 0] v22.heap.size rfl) rfl (by kernel_rfl) (by simp [Value.oneCell']) ?_; intro U HU))
        obtain ⟨U23, hUU⟩ : ∃ Z, Z = U := ⟨_, rfl⟩
        rw [← hUU] at HU ⊢
        clear hUU U
        have hb : Below v22.heap.size v22 U23 := by rw [HU.out]; exact below_setN (Nat.le_refl _) ((Below.refl _ _).alloc (Nat.le_refl _) _)
        have Yx := Lib.hid (show VarN U23 v22.heap.size [.int .i64 p2, .int .i64 (r 0), .int .i64 (r 1), .int .i64 (r 2), .int .i64 (r 3), .int .i64 (r 4), .int .i64 (r 5), .int .i64 (r 6), .int .i64 (r 7), .slice fa22 0 fc22, .int .i64 0, .int .i64 0, .slice la22 0 lc22] by rw [HU.out]; exact varN_all (xs := [.int .i64 p2, .int .i64 (r 0), .int .i64 (r 1), .int .i64 (r 2), .int .i64 (r 3), .int .i64 (r 4), .int .i64 (r 5), .int .i64 (r 6), .int .i64 (r 7), .slice fa22 0 fc22, .int .i64 0, .int .i64 0, .slice la22 0 lc22]) (varN_new [.int .i64 0, .int .i64 0, .int .i64 0, .int .i64 0, .int .i64 0, .int .i64 0, .int .i64 0, .int .i64 0, .int .i64 0, .slice none 0 0, .int .i64 0, .int .i64 0, .slice none 0 0] v22.heap.size rfl) rfl)
        clear HU
        have HB23 := Lib.hid (below_from HB22.out hb)
        have G23 := Lib.hid (varN_B hb G22.out)
        have T23 := Lib.hid (varN_B hb T22.out)
        have S23 := Lib.hid (varN_B hb S22.out)
        have V23 := Lib.hid (varN_B hb V22.out)
        have L23 := Lib.hid (varN_B hb L22.out)
        have M23 := Lib.hid (varN_B hb M22.out)
        have Z23 := Lib.hid (varN_B hb Z22.out)
        clear hb HB22 G22 T22 S22 V22 L22 M22 Z22
        have kz := (Z23.out 0 _ rfl).1
        have ky := (Yx.out 0 _ rfl).1
        have kgx := (G23.out jx _ (get_reg0 r jx HJ8.out.1 _)).1
        by_cases h0 : r jx = 0
        · have e1 : p1 = 9 := by rw [← Hp1.out, brP, if_pos rfl, if_pos h0]
          have e2 : p2 = 1 := by rw [← Hp2.out, brP, if_neg (by decide), if_pos h0]
          have q0 : (r jx == 0) = true := by simpa using h0
          rw [e1] at kz
          rw [e2] at ky
          clear e1 e2 h0
          go_wp2
          go_quiet (fail)
          go_wp2
          go_ret
          exact boolPost_mk rfl (below_drews HB23.out _)
        · have e1 : p1 = 1 := by rw [← Hp1.out, brP, if_pos rfl, if_neg h0]
          have e2 : p2 = 9 := by rw [← Hp2.out, brP, if_neg (by decide), if_neg h0]
          have q0 : (r jx == 0) = false := by simpa using h0
          rw [e1] at kz
          rw [e2] at ky
          clear e1 e2 h0
          go_wp2
          go_quiet (fail)
          go_wp2
          go_ret
          exact boolPost_mk rfl (below_drews HB23.out _)
      · skip
        rw [if_neg (by omega)] at kl
        rw [if_neg (by omega)] at km
        have qq : (r jx == r jy) = true := by simpa using hc
        clear hc
        go_wp2
        go_quiet (fail)
        clear kl km kgx kgy qq
        have HB19 := Lib.hid (below_drews HB18.out nq)
        have G19 := Lib.hid (show VarN (U18.drewN nq) w.heap.size [.int .i64 (r 0), .int .i64 (r 1), .int .i64 (r 2), .int .i64 (r 3), .int .i64 (r 4), .int .i64 (r 5), .int .i64 (r 6), .int .i64 (r 7)] from G18.out)
        have T19 := Lib.hid (show VarN (U18.drewN nq) W.heap.size [.int .i64 0, .int .i64 (r 0), .int .i64 (r 1), .int .i64 (r 2), .int .i64 (r 3), .int .i64 (r 4), .int .i64 (r 5), .int .i64 (r 6), .int .i64 (r 7), .slice none 0 0, .int .i64 0, .int .i64 0, .slice none 0 0] from T18.out)
        have S19 := Lib.hid (show VarN (U18.drewN nq) v2.heap.size [.int .i64 3, .int .i64 (x3 0), .int .i64 (x3 1), .int .i64 (x3 2), .int .i64 (x3 3), .int .i64 (x3 4), .int .i64 (x3 5), .int .i64 (x3 6), .int .i64 (x3 7), .slice fa11 0 fc11, .int .i64 0, .int .i64 0, .slice la11 0 lc11] from S18.out)
        have V19 := Lib.hid (show VarN (U18.drewN nq) U12.heap.size [.int .i64 (rr 0), .int .i64 (rr 1), .int .i64 (rr 2), .int .i64 (rr 3), .int .i64 (rr 4), .int .i64 (rr 5), .int .i64 (rr 6), .int .i64 (rr 7)] from V18.out)
        have L19 := Lib.hid (show VarN (U18.drewN nq) v15.heap.size [.int .i64 1, .int .i64 (l1 0), .int .i64 (l1 1), .int .i64 (l1 2), .int .i64 (l1 3), .int .i64 (l1 4), .int .i64 (l1 5), .int .i64 (l1 6), .int .i64 (l1 7), .slice fa15 0 fc15, .int .i64 0, .int .i64 0, .slice la15 0 lc15] from L18.out)
        have M19 := Lib.hid (show VarN (U18.drewN nq) v17.heap.size [.int .i64 1, .int .i64 (l2 0), .int .i64 (l2 1), .int .i64 (l2 2), .int .i64 (l2 3), .int .i64 (l2 4), .int .i64 (l2 5), .int .i64 (l2 6), .int .i64 (l2 7), .slice fa17 0 fc17, .int .i64 0, .int .i64 0, .slice la17 0 lc17] from Mx.out)
        clear HB18 G18 T18 S18 V18 L18 Mx
        go_upto_region 20 with fail
        obtain ⟨p1, hp1⟩ : ∃ p : Int, brP 11 (r jx) = p := ⟨_, rfl⟩
        obtain ⟨p2, hp2⟩ : ∃ p : Int, brP 12 (r jx) = p := ⟨_, rfl⟩
        have Hp1 := Lib.hid hp1
        have Hp2 := Lib.hid hp2
        clear hp1 hp2
        go_wp2_with (first | (refine wpList_load_mid rfl 27 _ rfl W.heap.size 0 rfl [.int .i64 0, .int .i64 (r 0), .int .i64 (r 1), .int .i64 (r 2), .int .i64 (r 3), .int .i64 (r 4), .int .i64 (r 5), .int .i64 (r 6), .int .i64 (r 7), .slice none 0 0, .int .i64 0, .int .i64 0, .slice none 0 0] _ (varN_range T19.out) Try.underlying27 rfl (by kernel_rfl) ?_))
        have h0 := apply_any (reT 0 r) 0 (11, (jx : Int), 9, 0) none none 0 0 0 0 (U18.drewN nq) (thF_nil cap_nil cap_nil)
        rw [(re_br (o := 11) (r := r) (a := jx) (by decide) HJ8.out.1).1, (re_br (o := 11) (r := r) (a := jx) (by decide) HJ8.out.1).2, Hp1.out] at h0
        refine h0.mono ?_
        clear h0
        rintro e v20 ⟨fa20, fc20, la20, lc20, rfl, Q1, hb⟩
        have HC20 : Hid (Cap fa20 0 fc20 ∧ Cap la20 0 lc20) := ⟨Q1.fcap, Q1.lcap⟩
        clear Q1
        have HB20 := Lib.hid (below_from HB19.out hb)
        have G20 := Lib.hid (varN_B hb G19.out)
        have T20 := Lib.hid (varN_B hb T19.out)
        have S20 := Lib.hid (varN_B hb S19.out)
        have V20 := Lib.hid (varN_B hb V19.out)
        have L20 := Lib.hid (varN_B hb L19.out)
        have M20 := Lib.hid (varN_B hb M19.out)
        clear hb HB19 G19 T19 S19 V19 L19 M19
        have OGZ := Lib.hid (show w.heap.size < v20.heap.size from varN_lt G20.out (by simp))
        have OTZ := Lib.hid (show W.heap.size < v20.heap.size from varN_lt T20.out (by simp))
        have OSZ := Lib.hid (show v2.heap.size < v20.heap.size from varN_lt S20.out (by simp))
        have OVZ := Lib.hid (show U12.heap.size < v20.heap.size from varN_lt V20.out (by simp))
        have OLZ := Lib.hid (show v15.heap.size < v20.heap.size from varN_lt L20.out (by simp))
        have OMZ := Lib.hid (show v17.heap.size < v20.heap.size from varN_lt M20.out (by simp))
        go_upto_region 21 with (first | (refine wpList_store_var rfl 27 _ _ rfl v20.heap.size #[.int .i64 p1, .int .i64 (r 0), .int .i64 (r 1), .int .i64 (r 2), .int .i64 (r 3), .int .i64 (r 4), .int .i64 (r 5), .int .i64 (r 6), .int .i64 (r 7), .slice fa20 0 fc20, .int .i64 0, .int .i64 0, .slice la20 0 lc20] rfl rfl _ (varN_new [.int .i64 0, .int .i64 0, .int .i64 0, .int .i64 0, .int .i64 0, .int .i64 0, .int .i64 0, .int .i64 0, .int .i64 0, .slice none 0 0, .int .i64 0, .int .i64 0, .slice none 0 0] v20.heap.size rfl) rfl (by kernel_rfl) (by simp [Value.oneCell']) ?_; intro U HU))
        obtain ⟨U21, hUU⟩ : ∃ Z, Z = U := ⟨_, rfl⟩
        rw [← hUU] at HU ⊢
        clear hUU U
        have hb : Below v20.heap.size v20 U21 := by rw [HU.out]; exact below_setN (Nat.le_refl _) ((Below.refl _ _).alloc (Nat.le_refl _) _)
        have Zx := Lib.hid (show VarN U21 v20.heap.size [.int .i64 p1, .int .i64 (r 0), .int .i64 (r 1), .int .i64 (r 2), .int .i64 (r 3), .int .i64 (r 4), .int .i64 (r 5), .int .i64 (r 6), .int .i64 (r 7), .slice fa20 0 fc20, .int .i64 0, .int .i64 0, .slice la20 0 lc20] by rw [HU.out]; exact varN_all (xs := [.int .i64 p1, .int .i64 (r 0), .int .i64 (r 1), .int .i64 (r 2), .int .i64 (r 3), .int .i64 (r 4), .int .i64 (r 5), .int .i64 (r 6), .int .i64 (r 7), .slice fa20 0 fc20, .int .i64 0, .int .i64 0, .slice la20 0 lc20]) (varN_new [.int .i64 0, .int .i64 0, .int .i64 0, .int .i64 0, .int .i64 0, .int .i64 0, .int .i64 0, .int .i64 0, .int .i64 0, .slice none 0 0, .int .i64 0, .int .i64 0, .slice none 0 0] v20.heap.size rfl) rfl)
        clear HU
        have HB21 := Lib.hid (below_from HB20.out hb)
        have G21 := Lib.hid (varN_B hb G20.out)
        have T21 := Lib.hid (varN_B hb T20.out)
        have S21 := Lib.hid (varN_B hb S20.out)
        have V21 := Lib.hid (varN_B hb V20.out)
        have L21 := Lib.hid (varN_B hb L20.out)
        have M21 := Lib.hid (varN_B hb M20.out)
        clear hb HB20 G20 T20 S20 V20 L20 M20
        go_wp2_with (first | (refine wpList_load_mid rfl 27 _ rfl W.heap.size 0 rfl [.int .i64 0, .int .i64 (r 0), .int .i64 (r 1), .int .i64 (r 2), .int .i64 (r 3), .int .i64 (r 4), .int .i64 (r 5), .int .i64 (r 6), .int .i64 (r 7), .slice none 0 0, .int .i64 0, .int .i64 0, .slice none 0 0] _ (varN_range T21.out) Try.underlying27 rfl (by kernel_rfl) ?_))
        have h0 := apply_any (reT 0 r) 0 (12, (jx : Int), 9, 0) none none 0 0 0 0 U21 (thF_nil cap_nil cap_nil)
        rw [(re_br (o := 12) (r := r) (a := jx) (by decide) HJ8.out.1).1, (re_br (o := 12) (r := r) (a := jx) (by decide) HJ8.out.1).2, Hp2.out] at h0
        refine h0.mono ?_
        clear h0
        rintro e v22 ⟨fa22, fc22, la22, lc22, rfl, Q1, hb⟩
        have HC22 : Hid (Cap fa22 0 fc22 ∧ Cap la22 0 lc22) := ⟨Q1.fcap, Q1.lcap⟩
        clear Q1
        have HB22 := Lib.hid (below_from HB21.out hb)
        have G22 := Lib.hid (varN_B hb G21.out)
        have T22 := Lib.hid (varN_B hb T21.out)
        have S22 := Lib.hid (varN_B hb S21.out)
        have V22 := Lib.hid (varN_B hb V21.out)
        have L22 := Lib.hid (varN_B hb L21.out)
        have M22 := Lib.hid (varN_B hb M21.out)
        have Z22 := Lib.hid (varN_B hb Zx.out)
        clear hb HB21 G21 T21 S21 V21 L21 M21 Zx
        have OGY := Lib.hid (show w.heap.size < v22.heap.size from varN_lt G22.out (by simp))
        have OTY := Lib.hid (show W.heap.size < v22.heap.size from varN_lt T22.out (by simp))
        have OSY := Lib.hid (show v2.heap.size < v22.heap.size from varN_lt S22.out (by simp))
        have OVY := Lib.hid (show U12.heap.size < v22.heap.size from varN_lt V22.out (by simp))
        have OLY := Lib.hid (show v15.heap.size < v22.heap.size from varN_lt L22.out (by simp))
        have OMY := Lib.hid (show v17.heap.size < v22.heap.size from varN_lt M22.out (by simp))
        have OZY := Lib.hid (show v20.heap.size < v22.heap.size from varN_lt Z22.out (by simp))
        go_upto_region 22 with (first | (refine wpList_store_var rfl 27 _ _ rfl v22.heap.size #[.int .i64 p2, .int .i64 (r 0), .int .i64 (r 1), .int .i64 (r 2), .int .i64 (r 3), .int .i64 (r 4), .int .i64 (r 5), .int .i64 (r 6), .int .i64 (r 7), .slice fa22 0 fc22, .int .i64 0, .int .i64 0, .slice la22 0 lc22] rfl rfl _ (varN_new [.int .i64 0, .int .i64 0, .int .i64 0, .int .i64 0, .int .i64 0, .int .i64 0, .int .i64 0, .int .i64 0, .int .i64 0, .slice none 0 0, .int .i64 0, .int .i64 0, .slice none 0 0] v22.heap.size rfl) rfl (by kernel_rfl) (by simp [Value.oneCell']) ?_; intro U HU))
        obtain ⟨U23, hUU⟩ : ∃ Z, Z = U := ⟨_, rfl⟩
        rw [← hUU] at HU ⊢
        clear hUU U
        have hb : Below v22.heap.size v22 U23 := by rw [HU.out]; exact below_setN (Nat.le_refl _) ((Below.refl _ _).alloc (Nat.le_refl _) _)
        have Yx := Lib.hid (show VarN U23 v22.heap.size [.int .i64 p2, .int .i64 (r 0), .int .i64 (r 1), .int .i64 (r 2), .int .i64 (r 3), .int .i64 (r 4), .int .i64 (r 5), .int .i64 (r 6), .int .i64 (r 7), .slice fa22 0 fc22, .int .i64 0, .int .i64 0, .slice la22 0 lc22] by rw [HU.out]; exact varN_all (xs := [.int .i64 p2, .int .i64 (r 0), .int .i64 (r 1), .int .i64 (r 2), .int .i64 (r 3), .int .i64 (r 4), .int .i64 (r 5), .int .i64 (r 6), .int .i64 (r 7), .slice fa22 0 fc22, .int .i64 0, .int .i64 0, .slice la22 0 lc22]) (varN_new [.int .i64 0, .int .i64 0, .int .i64 0, .int .i64 0, .int .i64 0, .int .i64 0, .int .i64 0, .int .i64 0, .int .i64 0, .slice none 0 0, .int .i64 0, .int .i64 0, .slice none 0 0] v22.heap.size rfl) rfl)
        clear HU
        have HB23 := Lib.hid (below_from HB22.out hb)
        have G23 := Lib.hid (varN_B hb G22.out)
        have T23 := Lib.hid (varN_B hb T22.out)
        have S23 := Lib.hid (varN_B hb S22.out)
        have V23 := Lib.hid (varN_B hb V22.out)
        have L23 := Lib.hid (varN_B hb L22.out)
        have M23 := Lib.hid (varN_B hb M22.out)
        have Z23 := Lib.hid (varN_B hb Z22.out)
        clear hb HB22 G22 T22 S22 V22 L22 M22 Z22
        have kz := (Z23.out 0 _ rfl).1
        have ky := (Yx.out 0 _ rfl).1
        have kgx := (G23.out jx _ (get_reg0 r jx HJ8.out.1 _)).1
        by_cases h0 : r jx = 0
        · have e1 : p1 = 9 := by rw [← Hp1.out, brP, if_pos rfl, if_pos h0]
          have e2 : p2 = 1 := by rw [← Hp2.out, brP, if_neg (by decide), if_pos h0]
          have q0 : (r jx == 0) = true := by simpa using h0
          rw [e1] at kz
          rw [e2] at ky
          clear e1 e2 h0
          go_wp2
          go_quiet (fail)
          go_wp2
          go_ret
          exact boolPost_mk rfl (below_drews HB23.out _)
        · have e1 : p1 = 1 := by rw [← Hp1.out, brP, if_pos rfl, if_neg h0]
          have e2 : p2 = 9 := by rw [← Hp2.out, brP, if_neg (by decide), if_neg h0]
          have q0 : (r jx == 0) = false := by simpa using h0
          rw [e1] at kz
          rw [e2] at ky
          clear e1 e2 h0
          go_wp2
          go_quiet (fail)
          go_wp2
          go_ret
          exact boolPost_mk rfl (below_drews HB23.out _)
end Go.Proofs.Ytjddflnecfokaaa
