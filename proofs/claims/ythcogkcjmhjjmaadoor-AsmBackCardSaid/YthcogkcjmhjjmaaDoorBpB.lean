/- Package asm: Right; respiteref05: May, Right. -/
import Derived.Test.YthcogkcjmhjjmaaDoorBpA
import Derived.Test.YthcogkcjmhjjmaaDoorAsJ
import Derived.Test.YthcogkcjmhjjmaaDoorAsO
namespace Go.Proofs.YthcogkcjmhjjmaaDoor
open Go.ChangeShapes Go.WideShapes Go.ChangeAt Go.RowKit
open Gen

def rightC (c : List Ins) : Bool := decide (c.length ≤ 1000) && c.all (fun i => mayB i c.length)
def MayTo (c : List Ins) (n k : Nat) : Prop := ∀ q i, q < k → c[q]? = some i → mayB i n = true
theorem mayTo_succ {c : List Ins} {n k : Nat} {i : Ins} (h : MayTo c n k) (hi : c[k]? = some i) (h1 : mayB i n = true) : MayTo c n (k + 1) := fun q j hq hj => by
  rcases Nat.lt_succ_iff_lt_or_eq.1 hq with h2 | rfl
  · exact h q j h2 hj
  · rw [hi] at hj; injection hj with hj; subst hj; exact h1
theorem rightC_yes {c : List Ins} {n : Nat} (hl : c.length = n) (hn : n ≤ 1000) (h : MayTo c n n) : rightC c = true := by
  simp only [rightC, Bool.and_eq_true, decide_eq_true_eq, List.all_eq_true, hl]
  refine ⟨hn, fun i hi => ?_⟩
  obtain ⟨q, hq, rfl⟩ := List.mem_iff_getElem.1 hi
  exact h q _ (by omega) (by simp [hq])
theorem rightC_at {c : List Ins} {n k : Nat} {i : Ins} (hl : c.length = n) (hi : c[k]? = some i) (h : mayB i n = false) : rightC c = false := by
  cases hr : rightC c with
  | false => rfl
  | true =>
    simp only [rightC, Bool.and_eq_true, List.all_eq_true, hl] at hr
    have := hr.2 i (List.mem_of_getElem? hi)
    rw [h] at this; cases this
theorem rightC_long {c : List Ins} (h : ¬ c.length ≤ 1000) : rightC c = false := by simp [rightC, h]
theorem ins_of {w : World} {p : Option Addr} {n : Nat} {t : List Ins} (S : Vs repIns Any w p n t) {k : Nat} (hk : k < n) :
    ∃ b o x0 x1 x2 x3, p = some ⟨b, o, none⟩ ∧ t[k]? = some (x0, x1, x2, x3) ∧ w.cell? ⟨b, o + k * 4, none⟩ = some (.int .i64 x0) ∧ w.cell? ⟨b, o + k * 4 + 1, none⟩ = some (.int .i64 x1) ∧ w.cell? ⟨b, o + k * 4 + 2, none⟩ = some (.int .i64 x2) ∧ w.cell? ⟨b, o + k * 4 + 3, none⟩ = some (.int .i64 x3) := by
  obtain ⟨b, o, ⟨x0, x1, x2, x3⟩, e, ht, _, hA⟩ := vs_at S hk
  rw [show repIns.k = 4 from rfl] at hA
  obtain ⟨h0, h1, h2, h3⟩ := ins_at hA
  exact ⟨b, o, x0, x1, x2, x3, e, ht, h0, h1, h2, h3⟩

set_option maxHeartbeats 4000000 in
theorem asmRight_any (a : Option Addr) (n c : Nat) (cs : List Ins) (w : World) (S : Vs repIns Any w a n cs) (hn : n ≤ 9223372036854775807) (G : Glob w) :
    Calls Tryd.prog 15 #[.slice a n c] w (BoolPost (rightC cs) w) := by
  have Hn := Lib.hid S.1
  by_cases h6 : n ≤ 1000
  · have i6 : ¬ (1000 : Int) < n := by omega
    go_enter Tryd.func15, Tryd.ntmps15
    go_wp2
    go_loopw [10] (fun i wr => ∃ k : Nat, k ≤ n ∧ i = .int .i64 k ∧ Hid (MayTo cs n k) ∧ Below w.heap.size w wr) (fun i _ => n - (intOf i).toNat)
    case atStart => exact ⟨0, by omega, rfl, (show MayTo cs n 0 from fun q i hq => by omega), Below.refl _ _⟩
    case round =>
      obtain ⟨k, hk, rfl, hf, hb⟩ := hrel
      obtain ⟨wo, hwo⟩ : ∃ wo : World, wo = wr := ⟨_, rfl⟩
      subst hwo
      by_cases hlt : k < n
      · obtain ⟨b, o, x0, x1, x2, x3, rfl, hx, g0, g1, g2, g3⟩ := ins_of (vs_B hb S) hlt
        have HX := Lib.hid hx
        have HB := Lib.hid hb
        have GG := Lib.hid ((G.B hb).A (Obj.cells #[.int .i64 x0, .int .i64 x1, .int .i64 x2, .int .i64 x3] 39))
        have HB2 := Lib.hid (hb.alloc hb.size (Obj.cells #[.int .i64 x0, .int .i64 x1, .int .i64 x2, .int .i64 x3] 39))
        have i1 : (0 : Int) ≤ k := by omega
        have i2 : (k : Int) < n := by omega
        clear hx hb
        obtain ⟨mb, hmb⟩ : ∃ mb, mayB (x0, x1, x2, x3) n = mb := ⟨_, rfl⟩
        have HM := Lib.hid hmb
        clear hmb
        go_wp2_with fail
        have h0 := may_any (x0, x1, x2, x3) n _ GG.out
        rw [HM.out] at h0
        unfold insV at h0
        refine h0.mono ?_
        clear h0
        rintro e w1 ⟨rfl, hb1⟩
        have HB3 := Lib.hid (below_from HB2.out hb1)
        clear hb1 g0 g1 g2 g3
        cases mb with
        | true =>
          have HS := Lib.hid (mayTo_succ hf.out HX.out HM.out)
          go_wp2
          go_roundw
          case rel => exact ⟨k + 1, by omega, by go_num, HS.out, HB3.out⟩
          case measure => simp [intOf]; omega
        | false =>
          have HS := Lib.hid (rightC_at Hn.out HX.out HM.out)
          go_wp2
          go_ret
          exact boolPost_mk HS.out HB3.out
      · obtain rfl : k = n := by omega
        have HB := Lib.hid hb
        clear hb
        go_wp2
        go_ret
        exact boolPost_mk (rightC_yes Hn.out h6 hf.out) HB.out
  · have i6 : (1000 : Int) < n := by omega
    have HS := Lib.hid (rightC_long (c := cs) (by rw [Hn.out]; exact h6))
    clear h6
    go_enter Tryd.func15, Tryd.ntmps15
    go_wp2
    go_ret
    exact boolPost_mk HS.out (Below.refl _ _)


theorem refOpnd_any (i : Ins) (k : Nat) (w : World) (hk : k < 3) : Calls Tryd.prog 41 #[insV i, .int .i64 k] w fun e w' => e = .returned (.int .i64 (opnd i k)) ∧ Below w.heap.size w w' := by
  obtain ⟨op, a, b, c⟩ := i
  rcases (show k = 0 ∨ k = 1 ∨ k = 2 by omega) with rfl | rfl | rfl
  all_goals
    unfold insV
    go_enter Tryd.func41, Tryd.ntmps41
    go_wp2
    go_ret
    exact ⟨rfl, by go_grown⟩
theorem refName_no (k : Int) (w : World) (hk : ¬ (0 ≤ k ∧ k < 27)) : Calls Tryd.prog 39 #[.int .i64 k] w fun e w' => e = .returned (.string (str [])) ∧ Below w.heap.size w w' := by
  go_enter Tryd.func39, Tryd.ntmps39
  go_wp2
  all_goals first
    | (exfalso; omega)
    | (go_ret; exact ⟨rfl, by go_grown⟩)
end Go.Proofs.YthcogkcjmhjjmaaDoor
