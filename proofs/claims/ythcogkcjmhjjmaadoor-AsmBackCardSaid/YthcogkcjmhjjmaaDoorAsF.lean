/- Package asm: kinds. -/
import Derived.Test.YthcogkcjmhjjmaaDoorAsE
namespace Go.Proofs.YthcogkcjmhjjmaaDoor
open Go.ChangeShapes Go.WideShapes Go.ChangeAt Go.RowKit
open Gen
open Go.Maps (Keyed)

def kdR (v : Value) : Option (DataW Value × List MemPlace) := some (.held v, [])
theorem kdR_inv {v u : Value} {ps : List MemPlace} (h : kdR v = some (.held u, ps)) : v = u := by
  simp only [kdR, Option.some.injEq, Prod.mk.injEq, DataW.held.injEq] at h
  exact h.1
def kindR : Value := .agg #[.func (.func 45) #[] #[], .func (.func 46) #[] #[]]
def kindN : Value := .agg #[.func (.func 48) #[] #[], .func (.func 47) #[] #[]]
def kindT (b : Option Nat) : Value := .agg #[.func (.func 49) #[.map b] #[], .func (.func 32) #[] #[]]
theorem u8Key : Keyed Tryd.prog 5 := Maps.int_keyed Tryd.underlying5
/-- block km is the map of kinds, targets by the labels b -/
def KindMap (W : World) (km : Nat) (b : Option Nat) : Prop :=
  ∃ n D, W.ownsMap Tryd.prog 5 kdR km n D ∧ (∀ z, D.atKey (.int .u8 114) z = .held kindR) ∧ (∀ z, D.atKey (.int .u8 110) z = .held kindN) ∧ ∀ z, D.atKey (.int .u8 116) z = .held (kindT b)
def kindV (b : Option Nat) (c : Int) : Value := if c = 114 then kindR else if c = 110 then kindN else kindT b
theorem kind_look {W : World} {km : Nat} {b : Option Nat} (h : KindMap W km b) (c : Int) (hc : c = 114 ∨ c = 110 ∨ c = 116) :
    (Instr.lookup 43 (.map (some km)) (.int .u8 c) false).run Tryd.prog W = .ok (kindV b c) W := by
  obtain ⟨n, D, ho, h1, h2, h3⟩ := h
  have hwf : (Lit.int .u8 c).wf = true := by rcases hc with rfl | rfl | rfl <;> decide
  obtain ⟨v, ps, hrun, hv⟩ := ho.lookup u8Key Tryd.underlying43 (Tryd.zeroValue77 W) rfl (Maps.keyOf_int_mk Tryd.underlying5 hwf)
  rw [hrun]
  rcases hc with rfl | rfl | rfl
  · rw [h1] at hv; rw [kdR_inv hv]; rfl
  · rw [h2] at hv; rw [kdR_inv hv]; rfl
  · rw [h3] at hv; rw [kdR_inv hv]; rfl
theorem kindMap_low {F : Nat} {W W' : World} {km : Nat} {b : Option Nat} (hb : Below F W W') (hF : km < F) (h : KindMap W km b) : KindMap W' km b := by
  obtain ⟨n, D, ⟨es, cl, h1, h2⟩, r⟩ := h
  exact ⟨n, D, ⟨es, cl, (hb.block km hF).trans h1, h2⟩, r⟩
theorem kindMap_lt {W : World} {km : Nat} {b : Option Nat} (h : KindMap W km b) : km < W.heap.size := by
  obtain ⟨n, D, ho, r⟩ := h
  exact ho.lt
theorem kindMap_B {W W' : World} {km : Nat} {b : Option Nat} (hb : Below W.heap.size W W') (h : KindMap W km b) : KindMap W' km b := kindMap_low hb (kindMap_lt h) h
theorem kindMap_set {W : World} {km : Nat} {b : Option Nat} (h : KindMap W km b) {a : Addr} (ha : km ≠ a.block) (u : Value) : KindMap (W.setCell a u) km b := by
  obtain ⟨n, D, ho, r⟩ := h
  exact ⟨n, D, ho.setCell ha u, r⟩
theorem kindMap_kept {W W' : World} {km : Nat} {b : Option Nat} {row : Option Nat} (h : KindMap W km b) (hg : W.grownBy W' row) (hne : some km ≠ row) : KindMap W' km b := by
  obtain ⟨n, D, ho, r⟩ := h
  exact ⟨n, D, ho.kept hg hne, r⟩

set_option maxRecDepth 100000 in
set_option maxHeartbeats 4000000 in
theorem kinds_any (b : Option Nat) (w : World) : Calls Tryd.prog 21 #[.map b] w fun e w' => ∃ km, e = .returned (.map (some km)) ∧ w.heap.size ≤ km ∧ KindMap w' km b ∧ Below w.heap.size w w' := by
  have hmm := @run_makeMap Tryd.prog
  have k1 : keyOf Tryd.prog 5 (.int .u8 114) = some (.int .u8 114) := Maps.keyOf_int_mk Tryd.underlying5 (by decide)
  have k2 : keyOf Tryd.prog 5 (.int .u8 110) = some (.int .u8 110) := Maps.keyOf_int_mk Tryd.underlying5 (by decide)
  have k3 : keyOf Tryd.prog 5 (.int .u8 116) = some (.int .u8 116) := Maps.keyOf_int_mk Tryd.underlying5 (by decide)
  have o0 : (w.alloc (.map #[] 0)).ownsMap Tryd.prog 5 kdR w.heap.size 0 (.map []) := World.ownsMap_made _ _ _ _
  obtain ⟨W1, r1, o1, g1⟩ := o0.update u8Key Tryd.underlying43 (by unfold maxLen; omega) k1 (show kdR kindR = _ from rfl)
  obtain ⟨W2, r2, o2, g2⟩ := o1.update u8Key Tryd.underlying43 (by unfold maxLen; omega) k2 (show kdR kindN = _ from rfl)
  obtain ⟨W3, r3, o3, g3⟩ := o2.update u8Key Tryd.underlying43 (by unfold maxLen; omega) k3 (show kdR (kindT b) = _ from rfl)
  have hD : KindMap W3 w.heap.size b := by
    refine ⟨_, _, o3, fun z => ?_, fun z => ?_, fun z => ?_⟩
    · rw [Maps.atKey_put_other (by intro e; simp at e), Maps.atKey_put_other (by intro e; simp at e), Maps.atKey_put_same (k := .int .u8 114) Maps.isMap_empty trivial]
    · rw [Maps.atKey_put_other (by intro e; simp at e), Maps.atKey_put_same (k := .int .u8 110) (Maps.isMap_empty.put _ _) trivial]
    · rw [Maps.atKey_put_same (k := .int .u8 116) ((Maps.isMap_empty.put _ _).put _ _) trivial]
  have hB : Below w.heap.size w W3 := by
    have h0 : Below w.heap.size w (w.alloc (.map #[] 0)) := (Below.refl _ _).alloc (Nat.le_refl _) _
    have h1 := h0.grown g1 h0.size (fun r e => by cases e; exact Nat.le_refl _)
    have h2 := h1.grown g2 h1.size (fun r e => by cases e; exact Nat.le_refl _)
    exact h2.grown g3 h2.size (fun r e => by cases e; exact Nat.le_refl _)
  have HD := Lib.hid hD
  have HB := Lib.hid hB
  clear o0 o1 o2 o3 g1 g2 g3 hD hB k1 k2 k3
  unfold kindR at r1
  unfold kindN at r2
  unfold kindT at r3
  go_enter Tryd.func21, Tryd.ntmps21
  go_wp2
  go_ret
  exact ⟨_, rfl, Nat.le_refl _, HD.out, HB.out⟩
end Go.Proofs.YthcogkcjmhjjmaaDoor
