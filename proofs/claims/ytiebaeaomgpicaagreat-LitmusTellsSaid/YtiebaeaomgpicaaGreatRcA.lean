/- Contracts of package respiteref04: Less. -/
import Derived.Test.YtiebaeaomgpicaaGreatGen
import Derived.Test.YtiebaeaomgpicaaGreatM3
namespace Go.Proofs.YtiebaeaomgpicaaGreat
open Go.ChangeShapes Go.WideShapes Go.ChangeAt Go.RowKit
open Gen
def lessB : List Int → List Int → Bool
  | [], ys => decide (0 < ys.length)
  | _ :: _, [] => false
  | x :: xs, y :: ys => if x = y then lessB xs ys else decide (x < y)
theorem lessB_step {xs ys : List Int} {k : Nat} {x y : Int} (hx : xs[k]? = some x) (hy : ys[k]? = some y) : lessB (xs.drop k) (ys.drop k) = if x = y then lessB (xs.drop (k + 1)) (ys.drop (k + 1)) else decide (x < y) := by
  obtain ⟨h1, rfl⟩ := List.getElem?_eq_some_iff.1 hx
  obtain ⟨h2, rfl⟩ := List.getElem?_eq_some_iff.1 hy
  rw [List.drop_eq_getElem_cons h1, List.drop_eq_getElem_cons h2]
  rfl
theorem lessB_more {xs ys : List Int} {k : Nat} (h1 : k < xs.length) (h2 : ys.length ≤ k) : lessB (xs.drop k) (ys.drop k) = false := by
  rw [List.drop_eq_getElem_cons h1, List.drop_eq_nil_of_le h2]; rfl
theorem lessB_end {xs ys : List Int} {k : Nat} (h1 : xs.length ≤ k) (h2 : k ≤ ys.length) (h3 : xs.length = k) : lessB (xs.drop k) (ys.drop k) = decide (xs.length < ys.length) := by
  rw [List.drop_eq_nil_of_le h1, lessB, List.length_drop, decide_eq_decide]; omega
theorem int_atR {Q : Nat → Prop} {w : World} {p : Option Addr} {n : Nat} {zs : List Int} (S : Vs repInt Q w p n zs) {k : Nat} (hk : k < n) : ∃ b o z, p = some ⟨b, o, none⟩ ∧ zs[k]? = some z ∧ w.cell? ⟨b, o + k, none⟩ = some (.int .i64 z) := by
  obtain ⟨b, o, z, e, ht, _, h⟩ := vs_at S hk
  have h := at_int h
  rw [show repInt.k = 1 from rfl, Nat.mul_one] at h
  exact ⟨b, o, z, e, ht, h⟩
def LessPost (z : Bool) (w : World) (e : Ending) (w' : World) : Prop := e = .returned (.bool z) ∧ Below w.heap.size w w'
theorem lessPost_mk {z z' : Bool} {w w' : World} (h : z = z') (hb : Below w.heap.size w w') : LessPost z w (.returned (.bool z')) w' := by subst h; exact ⟨rfl, hb⟩

set_option maxRecDepth 100000 in
set_option maxHeartbeats 4000000 in
theorem refLess_any {Q Q' : Nat → Prop} (p q : Option Addr) (n c m d : Nat) (xs ys : List Int) (w : World) (S1 : Vs repInt Q w p n xs) (S2 : Vs repInt Q' w q m ys) (hn : n ≤ 1000000) (hm : m ≤ 1000000) :
    Calls Tryz.prog 54 #[.slice p n c, .slice q m d] w (LessPost (lessB xs ys) w) := by
  have H1 := Lib.hid S1.1
  have H2 := Lib.hid S2.1
  have HC0 := Lib.hid (show lessB (xs.drop 0) (ys.drop 0) = lessB xs ys from rfl)
  obtain ⟨R, hR⟩ : ∃ R, lessB xs ys = R := ⟨_, rfl⟩
  rw [hR] at HC0 ⊢
  clear hR
  go_enter Tryz.func54, Tryz.ntmps54
  go_wp2_with fail
  go_loopw [5, 8] (fun _ i wr => ∃ k : Nat, k ≤ n ∧ k ≤ m ∧ i = .int .i64 k ∧ Hid (lessB (xs.drop k) (ys.drop k) = R) ∧ Below w.heap.size w wr) (fun _ i _ => n - (intOf i).toNat)
  case atStart => exact ⟨0, by omega, by omega, rfl, HC0.out, Below.refl _ _⟩
  case round =>
    obtain ⟨k, hk, hk2, rfl, hc, hb⟩ := hrel
    by_cases hlt : k < n
    · obtain ⟨b, o, x, rfl, hx, g0⟩ := int_atR (vs_B hb (vs_any S1)) hlt
      have HX := Lib.hid hx
      have i1 : (0 : Int) ≤ k := by omega
      have i2 : (k : Int) < n := by omega
      have HB := Lib.hid hb
      clear hx
      by_cases hlt2 : k < m
      · obtain ⟨b2, o2, y, rfl, hy, g1⟩ := int_atR (vs_B hb (vs_any S2)) hlt2
        have HC := Lib.hid ((lessB_step HX.out hy).symm.trans hc.out)
        have i3 : ¬ (m : Int) ≤ k := by omega
        have i4 : (k : Int) < m := by omega
        clear hy hb
        by_cases h0 : x = y
        · subst h0
          have q0 : (x != x) = false := by simp
          go_wp2_with fail
          go_region
          go_wp2_with fail
          go_roundw
          case rel => exact ⟨k + 1, by omega, by omega, by go_num, (by have h := HC.out; rw [if_pos trivial] at h; exact h), HB.out.drew⟩
          case measure => simp [intOf]; omega
        · have q0 : (x != y) = true := by simpa using h0
          have HR := Lib.hid (show R = decide (x < y) from HC.out.symm.trans (if_neg h0))
          clear h0
          go_wp2_with fail
          go_region
          go_wp2_with fail
          go_region
          go_wp2_with fail
          go_ret
          exact lessPost_mk HR.out HB.out.drew.drew
      · have i3 : (m : Int) ≤ k := by omega
        have HR := Lib.hid (show R = false from hc.out.symm.trans (lessB_more (by rw [H1.out]; exact hlt) (by rw [H2.out]; omega)))
        clear hb
        go_wp2_with fail
        go_ret
        exact lessPost_mk HR.out HB.out
    · obtain rfl : k = n := by omega
      have HR := Lib.hid (show R = decide (k < m) from hc.out.symm.trans ((lessB_end (by rw [H1.out]; exact Nat.le_refl _) (by rw [H2.out]; exact hk2) H1.out).trans (by rw [H1.out, H2.out])))
      have HB := Lib.hid hb
      clear hb
      go_wp2_with fail
      go_ret
      exact lessPost_mk HR.out HB.out
end Go.Proofs.YtiebaeaomgpicaaGreat
