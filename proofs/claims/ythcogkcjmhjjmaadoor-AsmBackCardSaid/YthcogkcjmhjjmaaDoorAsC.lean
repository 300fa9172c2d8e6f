/- Package asm: the map of labels; fault, readTarget. -/
import Derived.Test.YthcogkcjmhjjmaaDoorAsB
namespace Go.Proofs.YthcogkcjmhjjmaaDoor
open Go.ChangeShapes Go.WideShapes Go.ChangeAt Go.RowKit
open Gen
open Go.Maps (Keyed)

/-- how a place reads -/
def intV : Value → Option Int
  | .int .i64 a => some a
  | _ => none
theorem intV_inv {v : Value} {a : Int} (h : intV v = some a) : v = .int .i64 a := by
  unfold intV at h
  split at h
  · injection h with h; rw [h]
  · cases h
def plR (v : Value) : Option (DataW Unit × List MemPlace) :=
  match v with
  | .agg c =>
    match c.toList with
    | [x, y] => (intV x).bind fun a => (intV y).bind fun b => some (.agg [.lit (.int .i64 a), .lit (.int .i64 b)], [])
    | _ => none
  | _ => none
theorem plR_mk (a b : Int) : plR (.agg #[.int .i64 a, .int .i64 b]) = some (.agg [.lit (.int .i64 a), .lit (.int .i64 b)], []) := rfl
theorem plR_inv {v : Value} {a b : Int} {ps : List MemPlace} (h : plR v = some (.agg [.lit (.int .i64 a), .lit (.int .i64 b)], ps)) : v = .agg #[.int .i64 a, .int .i64 b] := by
  unfold plR at h
  split at h
  · rename_i c
    split at h
    · rename_i x y hc
      simp only [Option.bind_eq_some_iff] at h
      obtain ⟨a', ha, b', hb, h⟩ := h
      simp only [Option.some.injEq, Prod.mk.injEq, DataW.agg.injEq, List.cons.injEq, DataW.lit.injEq, Lit.int.injEq, true_and, and_true] at h
      obtain ⟨⟨rfl, rfl⟩, -⟩ := h
      obtain rfl := intV_inv ha
      obtain rfl := intV_inv hb
      congr 1
      exact Array.toList_inj.1 hc
    · cases h
  · cases h
def zd : DataW Unit := .agg [.lit (.int .i64 0), .lit (.int .i64 0)]
/-- block b is a map that says where labels are -/
def LabMap (W : World) (b n : Nat) (f : Bs → Option (Int × Int)) : Prop :=
  ∃ D, W.ownsMap Tryd.prog 9 plR b n D ∧ Maps.IsMap D ∧ ∀ nm, Maps.has D (.string nm) = (f nm).isSome ∧ ∀ p, f nm = some p → D.atKey (.string nm) zd = .agg [.lit (.int .i64 p.1), .lit (.int .i64 p.2)]
def placeV (f : Bs → Option (Int × Int)) (nm : Bs) : Value := .agg #[.int .i64 ((f nm).getD (0, 0)).1, .int .i64 ((f nm).getD (0, 0)).2]
theorem strKey : Keyed Tryd.prog 9 := Maps.string_keyed Tryd.underlying9
theorem lab_at {f : Bs → Option (Int × Int)} {D : DataW Unit} (hD : ∀ nm, Maps.has D (.string nm) = (f nm).isSome ∧ ∀ p, f nm = some p → D.atKey (.string nm) zd = .agg [.lit (.int .i64 p.1), .lit (.int .i64 p.2)]) (nm : Bs) :
    D.atKey (.string nm) zd = .agg [.lit (.int .i64 ((f nm).getD (0, 0)).1), .lit (.int .i64 ((f nm).getD (0, 0)).2)] := by
  cases h : f nm with
  | some p => exact (hD nm).2 p h
  | none =>
    have := (hD nm).1
    rw [h] at this
    exact Maps.atKey_of_not_has this _
theorem lab_look {W : World} {b n : Nat} {f : Bs → Option (Int × Int)} (h : LabMap W b n f) (s : ByteArray) (hs : s.size ≤ maxLen) :
    (Instr.lookup 41 (.map (some b)) (.string s) false).run Tryd.prog W = .ok (placeV f s.data.toList) W := by
  obtain ⟨D, ho, hm, hD⟩ := h
  obtain ⟨v, ps, hrun, hv⟩ := ho.lookup strKey Tryd.underlying41 (Tryd.zeroValue71 W) (plR_mk 0 0) (WideMaps.keyOf_string_mk Tryd.underlying9 hs)
  rw [show (DataW.agg [.lit (.int .i64 0), .lit (.int .i64 0)] : DataW Unit) = zd from rfl, lab_at hD] at hv
  rw [hrun, plR_inv hv]
  rfl
theorem lab_look_ok {W : World} {b n : Nat} {f : Bs → Option (Int × Int)} (h : LabMap W b n f) (s : ByteArray) (hs : s.size ≤ maxLen) :
    (Instr.lookup 41 (.map (some b)) (.string s) true).run Tryd.prog W = .ok (.tuple #[placeV f s.data.toList, .bool (f s.data.toList).isSome]) W := by
  obtain ⟨D, ho, hm, hD⟩ := h
  obtain ⟨v, ps, hrun, hv⟩ := ho.look_ok strKey Tryd.underlying41 (Tryd.zeroValue71 W) (plR_mk 0 0) (WideMaps.keyOf_string_mk Tryd.underlying9 hs)
  rw [show (DataW.agg [.lit (.int .i64 0), .lit (.int .i64 0)] : DataW Unit) = zd from rfl, lab_at hD] at hv
  rw [hrun, plR_inv hv, (hD _).1]
  rfl
theorem labMap_kept {W W' : World} {b n : Nat} {f : Bs → Option (Int × Int)} {row : Option Nat} (h : LabMap W b n f) (hg : W.grownBy W' row) (hne : some b ≠ row) : LabMap W' b n f := by
  obtain ⟨D, ho, r⟩ := h
  exact ⟨D, ho.kept hg hne, r⟩
theorem labMap_lt {W : World} {b n : Nat} {f : Bs → Option (Int × Int)} (h : LabMap W b n f) : b < W.heap.size := by
  obtain ⟨D, ho, r⟩ := h
  exact ho.lt
theorem labMap_low {F : Nat} {W W' : World} {b n : Nat} {f : Bs → Option (Int × Int)} (hb : Below F W W') (hF : b < F) (h : LabMap W b n f) : LabMap W' b n f := by
  obtain ⟨D, ⟨es, cl, h1, h2⟩, r⟩ := h
  exact ⟨D, ⟨es, cl, (hb.block b hF).trans h1, h2⟩, r⟩
theorem labMap_B {W W' : World} {b n : Nat} {f : Bs → Option (Int × Int)} (hb : Below W.heap.size W W') (h : LabMap W b n f) : LabMap W' b n f := labMap_low hb (labMap_lt h) h
theorem labMap_set {W : World} {b n : Nat} {f : Bs → Option (Int × Int)} (h : LabMap W b n f) {a : Addr} (ha : b ≠ a.block) (u : Value) : LabMap (W.setCell a u) b n f := by
  obtain ⟨D, ho, r⟩ := h
  exact ⟨D, ho.setCell ha u, r⟩
theorem labMap_new (W : World) (b : Nat) (hb : b = W.heap.size) : LabMap (W.alloc (.map #[] 0)) b 0 (fun _ => none) := by
  subst hb
  exact ⟨.map [], World.ownsMap_made _ _ _ _, Maps.isMap_empty, fun nm => ⟨rfl, fun p h => by cases h⟩⟩
/-- a label more -/
theorem labMap_put {W : World} {b n : Nat} {f f' : Bs → Option (Int × Int)} (h : LabMap W b n f) (s : ByteArray) (hs : s.size ≤ maxLen) (hn : n < maxLen) (x y : Int) (hf : ∀ nm, f' nm = if nm = s.data.toList then some (x, y) else f nm) :
    ∃ W', (Instr.mapUpdate 41 (.map (some b)) (.string s) (.agg #[.int .i64 x, .int .i64 y])).run Tryd.prog W = .ok () W' ∧ LabMap W' b (n + 1) f' ∧ W.grownBy W' (some b) := by
  obtain ⟨D, ho, hm, hD⟩ := h
  obtain ⟨W', hrun, ho', hg⟩ := ho.update strKey Tryd.underlying41 hn (WideMaps.keyOf_string_mk Tryd.underlying9 hs) (plR_mk x y)
  refine ⟨W', hrun, ⟨_, ho', hm.put _ _, fun nm => ?_⟩, hg⟩
  rw [hf]
  by_cases e : nm = s.data.toList
  · subst e
    rw [if_pos rfl]
    refine ⟨Maps.has_put_same (k := .string s.data.toList) hm trivial _, fun p hp => ?_⟩
    cases hp
    exact Maps.atKey_put_same (k := .string s.data.toList) hm trivial _ _
  · rw [if_neg e]
    have hne : (Lit.string nm) ≠ .string s.data.toList := fun q => e (by injection q)
    rw [Maps.has_put_other hne, Maps.atKey_put_other hne]
    exact hD nm

theorem field_place (w : World) (x y : Value) : (Instr.field 71 (.agg #[x, y]) 0).run Tryd.prog w = .ok x w := by
  simp [go_sem, Instr.field, asAgg]
theorem nmL_len (l : Bs) : (nmL l).length ≤ l.length := by
  unfold nmL Lib.trimSuffix
  split
  · rw [List.length_take]; omega
  · exact Nat.le_refl _
theorem str_data (l : Bs) : (str l).data.toList = l := by simp
theorem str_size (l : Bs) : (str l).size = l.length := by rw [bytes_size, str_data]
set_option maxRecDepth 100000 in
set_option maxHeartbeats 1000000 in
theorem fault_any (s : ByteArray) (b N : Nat) (f : Bs → Option (Int × Int)) (n : Int) (w : World) (hs : s.size ≤ 1000000) (L : LabMap w b N f) : Calls Tryd.prog 24 #[.map (some b), .string s, .int .i64 n] w fun e w' => e = .returned (.int .i64 (faultE f s.data.toList n)) ∧ w' = w := by
  have hl := nmL_len s.data.toList
  have hz := bytes_size s
  obtain ⟨nm, hnm⟩ : ∃ nm, nmL s.data.toList = nm := ⟨_, rfl⟩
  have hr := lab_look L (str nm) (by rw [str_size, ← hnm]; unfold maxLen; omega)
  rw [str_data] at hr
  rw [hnm] at hl
  have HNM := Lib.hid hnm
  unfold placeV at hr
  obtain ⟨⟨x, y⟩, hp⟩ : ∃ p, (f nm).getD (0, 0) = p := ⟨_, rfl⟩
  rw [hp] at hr
  have HP := Lib.hid hp
  clear hp hnm
  cases hB : nameB nm with
  | false =>
    have HB := Lib.hid hB
    clear hr
    go_enter Tryd.func24, Tryd.ntmps24
    go_wp2_with (first | (go_at_call 43; refine (named_any _ _ (by omega)).mono ?_; rintro e w' ⟨rfl, rfl⟩; rw [HNM.out]) | (go_at_call 44; refine (isName_any _ _).mono ?_; rintro e w' ⟨rfl, rfl⟩; rw [str_data, HB.out]))
    go_ret
    rw [faultE, HNM.out, if_pos HB.out]
    exact ⟨rfl, rfl⟩
  | true =>
    have HB := Lib.hid hB
    have hfd := field_place w (.int .i64 x) (.int .i64 y)
    clear hB
    by_cases hx : x = n
    · subst hx
      go_enter Tryd.func24, Tryd.ntmps24
      go_wp2_with (first | (go_at_call 43; refine (named_any _ _ (by omega)).mono ?_; rintro e w' ⟨rfl, rfl⟩; rw [HNM.out]) | (go_at_call 44; refine (isName_any _ _).mono ?_; rintro e w' ⟨rfl, rfl⟩; rw [str_data, HB.out]))
      go_ret
      rw [faultE, HNM.out, if_neg (by rw [HB.out]; decide), HP.out, if_pos rfl]
      exact ⟨rfl, rfl⟩
    · have hx2 : (x == n) = false := by simpa using hx
      have HX := Lib.hid hx
      clear hx
      go_enter Tryd.func24, Tryd.ntmps24
      go_wp2_with (first | (go_at_call 43; refine (named_any _ _ (by omega)).mono ?_; rintro e w' ⟨rfl, rfl⟩; rw [HNM.out]) | (go_at_call 44; refine (isName_any _ _).mono ?_; rintro e w' ⟨rfl, rfl⟩; rw [str_data, HB.out]))
      go_ret
      rw [faultE, HNM.out, if_neg (by rw [HB.out]; decide), HP.out, if_neg HX.out]
      exact ⟨rfl, rfl⟩

set_option maxRecDepth 100000 in
set_option maxHeartbeats 1000000 in
theorem readTarget_any (s : ByteArray) (b N : Nat) (f : Bs → Option (Int × Int)) (w : World) (hs : s.size ≤ 1000000) (L : LabMap w b N f) : Calls Tryd.prog 49 #[.map (some b), .string s] w fun e w' => e = .returned (.tuple #[.int .i64 (targE f s.data.toList).1, .int .i64 (targE f s.data.toList).2]) ∧ Below w.heap.size w w' := by
  have hr := lab_look_ok L s (by unfold maxLen; omega)
  unfold placeV at hr
  cases hB : nameB s.data.toList with
  | false =>
    have HB := Lib.hid hB
    clear hr hB
    go_enter Tryd.func49, Tryd.ntmps49
    go_wp2_with (go_at_call 44; refine (isName_any _ _).mono ?_; rintro e w' ⟨rfl, rfl⟩; rw [HB.out])
    go_ret2
    rw [targE, if_pos HB.out]
    exact ⟨rfl, Below.refl _ _⟩
  | true =>
    have HB := Lib.hid hB
    clear hB
    cases hf : f s.data.toList with
    | none =>
      rw [hf] at hr
      dsimp only [Option.getD, Option.isSome] at hr
      have HF := Lib.hid hf
      clear hf
      go_enter Tryd.func49, Tryd.ntmps49
      go_wp2_with (go_at_call 44; refine (isName_any _ _).mono ?_; rintro e w' ⟨rfl, rfl⟩; rw [HB.out])
      go_ret2
      rw [targE, if_neg (by rw [HB.out]; decide), HF.out]
      exact ⟨rfl, by go_grown⟩
    | some p =>
      obtain ⟨x, y⟩ := p
      rw [hf] at hr
      dsimp only [Option.getD, Option.isSome] at hr
      have HF := Lib.hid hf
      clear hf
      go_enter Tryd.func49, Tryd.ntmps49
      go_wp2_with (go_at_call 44; refine (isName_any _ _).mono ?_; rintro e w' ⟨rfl, rfl⟩; rw [HB.out])
      go_ret2
      rw [targE, if_neg (by rw [HB.out]; decide), HF.out]
      exact ⟨rfl, by go_grown⟩
end Go.Proofs.YthcogkcjmhjjmaaDoor
