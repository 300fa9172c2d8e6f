/- Package local: fits. -/
import Derived.Test.YtjddflnecfokaaaLoB
import Derived.Deep.Strs
import Derived.Deep.QuietTactic
namespace Go.Proofs.Ytjddflnecfokaaa
open Go.ChangeShapes Go.WideShapes Go.ChangeAt Go.RowKit
open Gen

theorem get_opd (i : In4) (k : Nat) (hk : k < 3) : ([.int .i64 i.2.1, .int .i64 i.2.2.1, .int .i64 i.2.2.2] : List Value)[k]? = some (.int .i64 (opd i k)) := by
  rcases (show k = 0 ∨ k = 1 ∨ k = 2 by omega) with rfl | rfl | rfl <;> rfl
def FitsTo (i : In4) (s : List UInt8) (k : Nat) : Prop := ∀ j, j < k → oprB (s.getD j 0) (opd i j) = true
theorem fitsTo_succ {i : In4} {s : List UInt8} {k : Nat} (h : FitsTo i s k) (h1 : oprB (s.getD k 0) (opd i k) = true) : FitsTo i s (k + 1) := by
  intro j hj
  by_cases e : j = k
  · subst e; exact h1
  · exact h j (by omega)
theorem fits_yes {i : In4} {s : List UInt8} (h : FitsTo i s s.length) : fitsS i s = true := by
  simp only [fitsS, List.all_eq_true, List.mem_range]
  exact h
theorem fits_no {i : In4} {s : List UInt8} {k : Nat} (hk : k < s.length) (h1 : oprB (s.getD k 0) (opd i k) = false) : fitsS i s = false := by
  cases hr : fitsS i s with
  | false => rfl
  | true => rw [fits_at hr hk] at h1; cases h1
set_option maxRecDepth 100000 in
set_option maxHeartbeats 2000000 in
theorem fits_any (i : In4) (s : List UInt8) (w : World) (hs : s.length ≤ 3) :
    Calls Try.prog 22 #[.agg #[.int .i64 i.1, .int .i64 i.2.1, .int .i64 i.2.2.1, .int .i64 i.2.2.2], .string ⟨s.toArray⟩] w (BoolPost (fitsS i s) w) := by
  obtain ⟨W, hW⟩ : ∃ W, W = w.alloc (Obj.cells #[.int .i64 i.1, .int .i64 i.2.1, .int .i64 i.2.2.1, .int .i64 i.2.2.2] 29) := ⟨_, rfl⟩
  have hB : Below w.heap.size w W := by rw [hW]; go_grown
  have X : VarN W w.heap.size [.int .i64 i.1, .int .i64 i.2.1, .int .i64 i.2.2.1, .int .i64 i.2.2.2] := by rw [hW]; exact varN_new [.int .i64 i.1, .int .i64 i.2.1, .int .i64 i.2.2.1, .int .i64 i.2.2.2] _ rfl
  obtain ⟨V, hV⟩ : ∃ V, V = W.alloc (Obj.cells #[.int .i64 i.2.1, .int .i64 i.2.2.1, .int .i64 i.2.2.2] 59) := ⟨_, rfl⟩
  have Y : VarN V W.heap.size [.int .i64 i.2.1, .int .i64 i.2.2.1, .int .i64 i.2.2.2] := by rw [hV]; exact varN_new [.int .i64 i.2.1, .int .i64 i.2.2.1, .int .i64 i.2.2.2] _ rfl
  have hV2 : Below W.heap.size W V := by rw [hV]; go_grown
  have HB := Lib.hid (below_from hB hV2)
  have HX := Lib.hid X
  have HY := Lib.hid Y
  have HW := Lib.hid hW
  have HV := Lib.hid hV
  clear hW X hB hV Y hV2
  go_enter Try.func22, Try.ntmps22
  go_upto_region 1 with fail
  rw [← HW.out]
  have k0 := (HX.out 0 _ rfl).1
  have k1 := (HX.out 1 _ rfl).1
  have k2 := (HX.out 2 _ rfl).1
  have k3 := (HX.out 3 _ rfl).1
  go_upto_region 2 with fail
  rw [← HV.out]
  clear k0 k1 k2 k3
  go_wp2
  go_loopw [16] (fun x wr => ∃ k : Nat, k ≤ s.length ∧ x = .int .i64 k ∧ Hid (FitsTo i s k) ∧ Below V.heap.size V wr) (fun x _ => s.length - (intOf x).toNat)
  case atStart => exact ⟨0, by omega, rfl, (show FitsTo i s 0 from fun j hj => by omega), Below.refl _ _⟩
  case round =>
    obtain ⟨k, hk, rfl, hf, hb⟩ := hrel
    by_cases hlt : k < s.length
    · have i1 : (0 : Int) ≤ k := by omega
      have i2 : (k : Int) < s.length := by omega
      have i3 : (k : Int) < 3 := by omega
      have y := ((varN_B hb HY.out) k _ (get_opd i k (by omega))).1
      have HB1 := Lib.hid (below_from HB.out hb)
      have hb' := Lib.hid hb
      have hz : k < (⟨s.toArray⟩ : ByteArray).size := by show k < s.toArray.size; simpa using hlt
      have hu : (⟨s.toArray⟩ : ByteArray)[k] = s.getD k 0 := by show s.toArray[k]'_ = _; rw [List.getD_eq_getElem?_getD]; simp [hlt]
      have q := fun (d : Nat) => operand_any ((⟨s.toArray⟩ : ByteArray)[k]) (opd i k) (wr.drewN d)
      rw [hu] at q
      clear hb
      cases h0 : oprB (s.getD k 0) (opd i k) with
      | true =>
        have HS := Lib.hid (fitsTo_succ hf.out h0)
        rw [h0, ← hu] at q
        clear h0 hu
        go_wp2
        go_quiet ((go_at_call 47; exact Calls.quiet_of_same (q _)))
        go_wp2
        go_roundw
        case rel => exact ⟨k + 1, by omega, by go_num, HS.out, below_drews hb'.out _⟩
        case measure => simp [intOf]; omega
      | false =>
        have HS := Lib.hid (fits_no hlt h0)
        rw [h0, ← hu] at q
        clear h0 hu
        go_wp2
        go_quiet ((go_at_call 47; exact Calls.quiet_of_same (q _)))
        go_wp2
        go_ret
        exact boolPost_mk HS.out (below_drews HB1.out _)
    · obtain rfl : k = s.length := by omega
      have HB1 := Lib.hid (below_from HB.out hb)
      clear hb
      go_wp2
      go_ret
      exact boolPost_mk (fits_yes hf.out) HB1.out
end Go.Proofs.Ytjddflnecfokaaa
