/- Contracts of layer 4's own small functions: alive; and what the laws want of rows. -/
import Derived.Test.YtiebaeaomgpicaaGreatLtA
import Derived.Test.YtiebaeaomgpicaaGreatMT
import Derived.Test.YtiebaeaomgpicaaGreatN3
namespace Go.Proofs.YtiebaeaomgpicaaGreat
open Go.ChangeShapes Go.WideShapes Go.ChangeAt Go.RowKit
open Gen
theorem vs_new {α : Type} {r : Rep α} {Q : Nat → Prop} {w : World} {cs : List Value} {ys : List α} {t : TypeId} (g : Nat) (hg : g = w.heap.size) (hQ : Q g) (h : Flat r Q w cs ys) : Vs r Q (w.alloc (.cells cs.toArray t)) (some ⟨g, 0, none⟩) ys.length ys := by
  refine ⟨rfl, .inr ⟨g, 0, rfl, hQ, fun i y hi => ?_⟩⟩
  obtain ⟨c, hr, hc⟩ := flat_at h i y hi
  refine ⟨c, r.keep (kept_A _ _) hr, fun j v hj => ?_⟩
  have X := varN_new (w := w) cs (t := t) g hg
  rw [Nat.zero_add]; exact (X _ _ (hc j v hj)).1
/-- one slice in a row -/
theorem flat_one {α : Type} {r : Rep α} {Q : Nat → Prop} {w : World} {p : Option Addr} {n c : Nat} {ys : List α} (h1 : n ≤ c) (h2 : c ≤ 9223372036854775807) (h3 : p = none → c = 0) (V : Vs r Q w p n ys) : Flat (repSlice r) Q w [.slice p n c] (ys :: []) :=
  ⟨[.slice p n c], [], rfl, ⟨p, c, by rw [V.1], by rw [V.1]; exact h1, h2, h3, by rw [V.1]; exact V⟩, rfl⟩
theorem flat_two {α : Type} {r : Rep α} {Q : Nat → Prop} {w : World} {p q : Option Addr} {n c m d : Nat} {xs ys : List α} (h1 : n ≤ c) (h2 : c ≤ 9223372036854775807) (h3 : p = none → c = 0) (V : Vs r Q w p n xs) (k1 : m ≤ d) (k2 : d ≤ 9223372036854775807) (k3 : q = none → d = 0) (V' : Vs r Q w q m ys) :
    Flat (repSlice r) Q w [.slice p n c, .slice q m d] (xs :: ys :: []) :=
  ⟨[.slice p n c], _, rfl, ⟨p, c, by rw [V.1], by rw [V.1]; exact h1, h2, h3, by rw [V.1]; exact V⟩, flat_one k1 k2 k3 V'⟩
theorem flat_mv {Q : Nat → Prop} {w : World} : ∀ (ys : List Mv), Flat repInt3 Q w (ys.flatMap int3) ys
  | [] => rfl
  | y :: ys => ⟨int3 y, _, by rw [List.flatMap_cons], rfl, flat_mv ys⟩
theorem short_cut {ts : List (List Mv)} : ∀ t ∈ cutL ts, t.length ≤ 100 := by
  intro t ht
  simp only [cutL, List.mem_map] at ht
  obtain ⟨x, _, rfl⟩ := ht
  rw [List.length_take]; omega
theorem rows_many {W D : Int} {ts : List (List Mv)} (hm : mayL W D ts = true) : (rowsL W D ts).length ≤ 2 * 10 ^ 9 :=
  (metOk_few hm (metOk_dfs (f := 46) hm (ok_begin hm) (by have := mu_le hm (ok_begin hm); omega) metOk_nil)).2.1
theorem srt_len (xs : List (List Int)) : (srtL xs).length = xs.length := List.length_mergeSort ..

set_option maxRecDepth 100000 in
set_option maxHeartbeats 8000000 in
theorem alive4_any (w : World) : Calls Tryz.prog 9 #[] w (BoolPost true w) := by
  have V0 : Vs repInt3 Any (w.alloc (Obj.cells #[.int .i64 0, .int .i64 0, .int .i64 7] 61)) (some ⟨w.heap.size, 0, none⟩) 1 ((0, 0, 7) :: []) := vs_new (r := repInt3) (cs := [.int .i64 0, .int .i64 0, .int .i64 7]) (ys := (0, 0, 7) :: []) w.heap.size rfl trivial (flat_mv ((0, 0, 7) :: []))
  have V := vs_new (r := repSlice repInt3) (t := 39) (ys := ((0, 0, 7) :: []) :: []) (w.heap.size + 1) (by simp) trivial (flat_one (p := some ⟨w.heap.size, 0, none⟩) (n := 1) (c := 1) (by decide) (by decide) (fun h => by cases h) V0)
  have h0 := outcomes_row 1 0 (some ⟨w.heap.size + 1, 0, none⟩) 1 (((0, 0, 7) :: []) :: []) _ V (by simp) may_alive
  rw [rows_alive] at h0
  have HB0 := Lib.hid (show Below w.heap.size w ((w.alloc (Obj.cells #[.int .i64 0, .int .i64 0, .int .i64 7] 61)).alloc (Obj.cells [Value.slice (some ⟨w.heap.size, 0, none⟩) 1 1].toArray 39)) by go_grown)
  obtain ⟨W, hW⟩ : ∃ W, W = ((w.alloc (Obj.cells #[.int .i64 0, .int .i64 0, .int .i64 7] 61)).alloc (Obj.cells [Value.slice (some ⟨w.heap.size, 0, none⟩) 1 1].toArray 39)) := ⟨_, rfl⟩
  rw [← hW] at h0 HB0
  have HW := Lib.hid hW
  have H0 := Lib.hid h0
  clear V V0 hW h0
  go_enter Tryz.func9, Tryz.ntmps9
  go_wp2_with fail
  rw [← HW.out]
  refine H0.out.mono ?_
  rintro e w1 ⟨v, vs, rfl, own, flat, hb1⟩
  rw [show srtL ([7] :: []) = [7] :: [] by simp [srtL]] at flat
  obtain ⟨a1, c1, rfl, -, -, -, V⟩ := vs_own (r := repSlice repInt) (Q := Any) own (flat_mono (fun _ _ => trivial) flat) (fun _ _ _ => trivial)
  obtain ⟨b, o, z, p, c, rfl, hz, g0, -, -, -, V2⟩ := ints_at V (k := 0) (by decide)
  obtain rfl : [7] = z := by simpa using hz
  obtain ⟨b2, o2, x, rfl, hx, g1⟩ := int_at V2 (k := 0) (by decide)
  obtain rfl : 7 = x := by simpa using hx
  rw [Nat.add_zero] at g0 g1
  have HB1 := Lib.hid (below_from HB0.out hb1)
  clear hz hx V V2 own flat hb1
  go_wp2
  go_ret
  exact boolPost_mk rfl HB1.out
end Go.Proofs.YtiebaeaomgpicaaGreat
