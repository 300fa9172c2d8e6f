/- Package asm: labelled. -/
import Derived.Test.YthcogkcjmhjjmaaDoorAsD
namespace Go.Proofs.YthcogkcjmhjjmaaDoor
open Go.ChangeShapes Go.WideShapes Go.ChangeAt Go.RowKit Go.Shelf
open Gen

attribute [local go_sem] Oper.semAt_some

/-- between two lines -/
def LbI (h : Nat) (w : World) (pre : List Ln) (W : World) : Prop :=
  (W.cell? ⟨h + 1, 0, none⟩ = some (.map (some h)) ∧ W.cell? ⟨h + 1 + 1, 0, none⟩ = some (.int .i64 (pre.length : Nat)) ∧ W.frozen? ⟨h + 1 + 1, 0, none⟩ = false ∧ W.cell? ⟨h + 1 + 1 + 1, 0, none⟩ = some (.int .i64 (aheadL (vals pre) : Nat)) ∧ W.frozen? ⟨h + 1 + 1 + 1, 0, none⟩ = false) ∧
  LabMap W h pre.length (labAt (vals pre)) ∧ Below w.heap.size w W
theorem lbI_own {h B : Nat} {w : World} (hB : w.heap.size ≤ B) (hh : h < B) : OwnFrom B (LbI h w) := fun pre W W' row hs hg hr => by
  obtain ⟨⟨e1, e2, e3, e4, e5⟩, hm, hb⟩ := hs
  have hr' : ∀ r, row = some r → ∃ o : Obj, W.heap[r]? = some o ∧ o.isCells = false := fun r e => (hr r e).2
  refine ⟨⟨cell_kept e1 hg hr', cell_kept e2 hg hr', (frozen_kept e2 hg hr').trans e3, cell_kept e4 hg hr', (frozen_kept e4 hg hr').trans e5⟩, labMap_kept hm hg (fun e => by have := (hr _ e.symm).1; omega), ?_⟩
  exact hb.grown hg hb.size (fun r e => Nat.le_trans hB (hr r e).1)
theorem set_ne {W : World} {a b : Addr} {v : Value} (x : Value) (hne : b ≠ a) (h : W.cell? a = some v) : (W.setCell b x).cell? a = some v := by
  rw [World.cell?_setCell_other _ _ _ _ hne]; exact h
theorem set_eq {W : World} {a : Addr} {v : Value} (x : Value) (h : W.cell? a = some v) : (W.setCell a x).cell? a = some x := World.cell?_setCell_same' _ _ _ (by rw [h]; rfl)
theorem vals_len (pre : List Ln) : (vals pre).length = pre.length := by simp [vals]
theorem labMap_le {W : World} {b n n' : Nat} {f : Bs → Option (Int × Int)} (h : LabMap W b n f) (hn : n ≤ n') : LabMap W b n' f := by
  obtain ⟨D, ho, r⟩ := h
  exact ⟨D, ho.mono hn, r⟩
/-- a line that is no label -/
theorem lbI_plain {w W : World} {pre : List Ln} {x : Ln} (hx : labB x.1.1 = false) (h : LbI w.heap.size w pre W) :
    LbI w.heap.size w (pre ++ [x]) ((W.setCell ⟨w.heap.size + 1 + 1, 0, none⟩ (.int .i64 (pre.length + 1))).setCell ⟨w.heap.size + 1 + 1 + 1, 0, none⟩ (.int .i64 (aheadL (vals pre) + 1))) := by
  obtain ⟨⟨e1, e2, e3, e4, e5⟩, hm, hb⟩ := h
  have ea : aheadL (vals (pre ++ [x])) = aheadL (vals pre) + 1 := by rw [vals_snoc, aheadL_snoc, hx]; rfl
  refine ⟨⟨set_ne _ (by intro e; simp at e) (set_ne _ (by intro e; simp at e) e1), ?_, by rw [World.frozen?_setCell, World.frozen?_setCell]; exact e3, ?_, by rw [World.frozen?_setCell, World.frozen?_setCell]; exact e5⟩, ?_, ?_⟩
  · rw [List.length_append]; exact set_ne _ (by intro e; simp at e) (set_eq _ e2)
  · rw [ea]; exact set_eq _ (set_ne _ (by intro e; simp at e) e4)
  · have e6 : labAt (vals (pre ++ [x])) = labAt (vals pre) := by
      funext nm
      rw [vals_snoc, labAt_snoc, hx]
      simp
    rw [e6, List.length_append]
    exact labMap_le (labMap_set (labMap_set hm (by show _ ≠ _; simp; omega) _) (by show _ ≠ _; simp; omega) _) (by omega)
  · exact (hb.setCell (p := ⟨w.heap.size + 1 + 1, 0, none⟩) (by show w.heap.size ≤ w.heap.size + 1 + 1; omega) _).setCell (p := ⟨w.heap.size + 1 + 1 + 1, 0, none⟩) (by show w.heap.size ≤ w.heap.size + 1 + 1 + 1; omega) _
/-- a label's line: what holds once the number of lines is one more -/
theorem lbI_one {w W : World} {pre : List Ln} {x : Ln} (hx : labB x.1.1 = true) (h : LbI w.heap.size w pre W) (W1 W2 : World) (h1 : W1 = W.setCell ⟨w.heap.size + 1 + 1, 0, none⟩ (.int .i64 (pre.length + 1))) (o : Obj) (f : Bs → Option (Int × Int)) (row : Option Nat) (hrow : row = none ∨ row = some w.heap.size) (h2 : (W1.alloc o).grownBy W2 row) (L : LabMap W2 w.heap.size (pre.length + 1) f) (hf : ∀ nm, labAt (vals (pre ++ [x])) nm = f nm) :
    LbI w.heap.size w (pre ++ [x]) W2 := by
  subst h1
  obtain ⟨⟨e1, e2, e3, e4, e5⟩, hm, hb⟩ := h
  have ea : aheadL (vals (pre ++ [x])) = aheadL (vals pre) := by rw [vals_snoc, aheadL_snoc, hx]; rfl
  have k1 := cellA o (set_ne (b := ⟨w.heap.size + 1 + 1, 0, none⟩) (.int .i64 (pre.length + 1)) (by intro e; simp at e) e1)
  have k2 := cellA o (set_eq (.int .i64 (pre.length + 1)) e2)
  have k4 := cellA o (set_ne (b := ⟨w.heap.size + 1 + 1, 0, none⟩) (.int .i64 (pre.length + 1)) (by intro e; simp at e) e4)
  have far : ∀ (a : Addr) (v : Value), ((W.setCell ⟨w.heap.size + 1 + 1, 0, none⟩ (.int .i64 (pre.length + 1))).alloc o).cell? a = some v → a.block ≠ w.heap.size → W2.cell? a = some v ∧ W2.frozen? a = ((W.setCell ⟨w.heap.size + 1 + 1, 0, none⟩ (.int .i64 (pre.length + 1))).alloc o).frozen? a := by
    intro a v hv hne
    have hn : some a.block ≠ row := by rcases hrow with rfl | rfl <;> simp [hne]
    have hbk := h2.block a.block (lt_of_cell hv) hn
    refine ⟨?_, ?_⟩
    · rw [← hv]; simp only [World.cell?, hbk]
    · simp only [World.frozen?, hbk]
  refine ⟨⟨(far _ _ k1 (by show w.heap.size + 1 ≠ w.heap.size; omega)).1, ?_, ?_, ?_, ?_⟩, ?_, ?_⟩
  · rw [List.length_append]; exact (far _ _ k2 (by show w.heap.size + 1 + 1 ≠ w.heap.size; omega)).1
  · rw [(far _ _ k2 (by show w.heap.size + 1 + 1 ≠ w.heap.size; omega)).2, frozen_old o (by rw [World.size_setCell]; exact cell_lt e2), World.frozen?_setCell]; exact e3
  · rw [ea]; exact (far _ _ k4 (by show w.heap.size + 1 + 1 + 1 ≠ w.heap.size; omega)).1
  · rw [(far _ _ k4 (by show w.heap.size + 1 + 1 + 1 ≠ w.heap.size; omega)).2, frozen_old o (by rw [World.size_setCell]; exact cell_lt e4), World.frozen?_setCell]; exact e5
  · rw [List.length_append, show labAt (vals (pre ++ [x])) = f from funext hf]; exact L
  · have hb1 := (hb.setCell (p := ⟨w.heap.size + 1 + 1, 0, none⟩) (by show w.heap.size ≤ w.heap.size + 1 + 1; omega) (.int .i64 (pre.length + 1))).alloc (by rw [World.size_setCell]; exact hb.size) o
    exact hb1.grown h2 hb1.size (fun r e => by rcases hrow with rfl | rfl <;> simp at e; omega)

set_option maxRecDepth 100000 in
set_option maxHeartbeats 4000000 in
theorem labelled_any (s : Bs) (w : World) (hs : s.length ≤ 50000) (G : Glob w) : Calls Tryd.prog 20 #[.string (str s)] w fun e w' => ∃ b n, e = .returned (.map (some b)) ∧ w.heap.size ≤ b ∧ n ≤ 50000 ∧ LabMap w' b n (labAt (linesL s)) ∧ Below w.heap.size w w' := by
  refine (callsIn_wide (n := 3)).1 ?_
  refine callsIn_of_wp_marks Tryd.func20 rfl trivial ?_ rfl
  simp only [Tryd.ntmps20, List.size_toArray, List.length_cons, List.length_nil, Nat.reduceAdd, Nat.reduceSub, Array.replicate_succ, Array.replicate_zero, List.push_toArray, List.append_toArray, List.nil_append, List.cons_append]
  have hmm := @run_makeMap Tryd.prog
  gi_wp2_with (refine ⟨trivial, ?_⟩; gi_at_call 22; refine (lines_in 2 s _).mono ?_; rintro e w' ⟨rfl, rfl⟩)
  obtain ⟨W0, hW0⟩ : ∃ W0, (((((w.alloc (Obj.map #[] 0)).alloc (Obj.cells #[Value.map (some w.heap.size)] 41)).alloc (Obj.cells #[Value.int IntKind.i64 0] 3)).alloc (Obj.cells #[Value.int IntKind.i64 0] 3)).alloc (Obj.cells #[Value.string (str s)] 9)) = W0 := ⟨_, rfl⟩
  have hs0 : W0.heap.size = w.heap.size + 5 := by rw [← hW0]; simp
  have hB0 : Below w.heap.size w W0 := by rw [← hW0]; go_grown
  have c1 : W0.cell? ⟨w.heap.size + 1, 0, none⟩ = some (.map (some w.heap.size)) := by rw [← hW0]; exact cellA _ (cellA _ (cellA _ (cell_new _ _ _ (by simp) rfl)))
  have c2 : W0.cell? ⟨w.heap.size + 1 + 1, 0, none⟩ = some (.int .i64 0) := by rw [← hW0]; exact cellA _ (cellA _ (cell_new _ _ _ (by simp) rfl))
  have c3 : W0.cell? ⟨w.heap.size + 1 + 1 + 1, 0, none⟩ = some (.int .i64 0) := by rw [← hW0]; exact cellA _ (cell_new _ _ _ (by simp) rfl)
  have c4 : W0.cell? ⟨w.heap.size + 1 + 1 + 1 + 1, 0, none⟩ = some (.string (str s)) := by rw [← hW0]; exact cell_new _ _ _ (by simp) rfl
  have f2 : W0.frozen? ⟨w.heap.size + 1 + 1, 0, none⟩ = false := by rw [← hW0, frozen_old _ (by simp), frozen_old _ (by simp)]; exact frozen_new _ _ (by simp)
  have f3 : W0.frozen? ⟨w.heap.size + 1 + 1 + 1, 0, none⟩ = false := by rw [← hW0, frozen_old _ (by simp)]; exact frozen_new _ _ (by simp)
  have L0 : LabMap W0 w.heap.size 0 (labAt (vals [])) := by
    rw [← hW0, show labAt (vals []) = fun _ => none from rfl]
    exact labMap_low (F := w.heap.size + 1) (by go_grown) (by omega) (labMap_new w _ rfl)
  have hN : (linesL s).length ≤ 50000 := Nat.le_trans (linesL_len _ s (Nat.le_refl _)) hs
  have hg9 := G.size
  rw [hW0]
  clear hmm
  refine wpIn_rangeFunc_ownG rfl (by omega) (gf := 50) (lb := #[.pointer (some ⟨w.heap.size + 1 + 1 + 1 + 1, 0, none⟩)]) rfl trivial (enters_of Tryd.func50 (by kernel_rfl) rfl)
    (lines_stops 2 (by omega) (w.heap.size + 1 + 1 + 1 + 1) w.heap.size hg9 s hs W0 c4 (G.B hB0)) belowK_t (belowK_b (by omega)) (Below.refl _ _) (fun _ => rfl)
    (LbI w.heap.size w) (fun _ _ _ => False) (lbI_own (by omega) (by omega)) (fun _ _ _ _ _ h _ _ => h)
    ⟨⟨c1, c2, f2, c3, f3⟩, L0, hB0⟩
    (fun x => { tmps := #[.string (str s), undef, .map none, .pointer (some ⟨w.heap.size + 1, 0, none⟩), .pointer (some ⟨w.heap.size + 1 + 1, 0, none⟩), .pointer (some ⟨w.heap.size + 1 + 1 + 1, 0, none⟩), .string (str x.1.1), .bool x.1.2, undef, undef, undef, .map (some w.heap.size), .string (str s), .func (.func 50) #[] #[.pointer (some ⟨w.heap.size + 1 + 1 + 1 + 1, 0, none⟩)], .string (str x.1.1), .bool x.1.2, undef, undef, undef, undef, undef, undef, undef, undef, undef, undef, undef, undef, undef, undef, undef, undef, undef, undef, undef, undef, undef, undef, undef, undef, undef, undef, undef, undef, undef, undef], defers := [] }) ?assign ?body ?done ?stop
  case assign =>
    intro l x W K hK
    simp only [encLn]
    gi_wp2
    exact hK
  case body =>
    intro l pre x W hI hlt
    obtain ⟨⟨e1, e2, e3, e4, e5⟩, hm, hb⟩ := id hI
    have HI := Lib.hid hI
    obtain ⟨⟨⟨a, en⟩, hal⟩, hxe⟩ : ∃ y : Ln, y = x := ⟨x, rfl⟩
    rw [← hxe]
    dsimp only
    have HX := Lib.hid hxe
    clear hxe hI
    obtain ⟨k, hk⟩ : ∃ k, pre.length = k := ⟨_, rfl⟩
    obtain ⟨m, hm2⟩ : ∃ m, aheadL (vals pre) = m := ⟨_, rfl⟩
    rw [hk] at e2 hlt
    rw [hm2] at e4
    have hmk : m ≤ k := by rw [← hm2, ← hk, ← vals_len]; exact List.length_filter_le _ _
    have hkl : k ≤ 50000 := by omega
    have HK := Lib.hid hk
    have HM := Lib.hid hm2
    clear hk hm2 hlt
    have hsz := hb.size
    have hal' : a.length ≤ 50000 := hal
    have hsa : (str a).size ≤ 9223372036854775807 := by rw [str_size]; omega
    cases hlb : labB a with
    | false =>
      have HLB := Lib.hid hlb
      clear hlb hm
      gi_wp2_with (refine ⟨trivial, ?_⟩; gi_at_call 23; refine (CallsIn.inRound l (callsIn_wide.2 (labelling_any _ _ hsa))).mono ?_; rintro e w' ⟨rfl, rfl⟩; rw [str_data, HLB.out])
      refine ⟨((KeepsOthers.setCell _ _ _).trans (KeepsOthers.setCell _ _ _)).from _, ((Below.refl w.heap.size W).setCell (p := ⟨w.heap.size + 1 + 1, 0, none⟩) (by show w.heap.size ≤ w.heap.size + 1 + 1; omega) _).setCell (p := ⟨w.heap.size + 1 + 1 + 1, 0, none⟩) (by show w.heap.size ≤ w.heap.size + 1 + 1 + 1; omega) _, ?_⟩
      have h5 := lbI_plain (x := ⟨(a, en), hal⟩) HLB.out HI.out
      rw [HK.out, HM.out] at h5
      exact h5
    | true =>
      have HLB := Lib.hid hlb
      clear hlb
      obtain ⟨nm, hnm⟩ : ∃ nm, nmL a = nm := ⟨_, rfl⟩
      have hnl : nm.length ≤ 50000 := by rw [← hnm]; exact Nat.le_trans (nmL_len a) hal'
      have HNM := Lib.hid hnm
      obtain ⟨W1, hW1⟩ : ∃ W1, W1 = W.setCell ⟨w.heap.size + 1 + 1, 0, none⟩ (.int .i64 ((k : Int) + 1)) := ⟨_, rfl⟩
      have k1 : W1.cell? ⟨w.heap.size + 1, 0, none⟩ = some (.map (some w.heap.size)) := by rw [hW1]; exact set_ne _ (by intro e; simp at e) e1
      have k2 : W1.cell? ⟨w.heap.size + 1 + 1, 0, none⟩ = some (.int .i64 ((k : Int) + 1)) := by rw [hW1]; exact set_eq _ e2
      have k4 : W1.cell? ⟨w.heap.size + 1 + 1 + 1, 0, none⟩ = some (.int .i64 m) := by rw [hW1]; exact set_ne _ (by intro e; simp at e) e4
      have hz1 : W1.heap.size = W.heap.size := by rw [hW1, World.size_setCell]
      have L1 : LabMap W1 w.heap.size pre.length (labAt (vals pre)) := by rw [hW1]; exact labMap_set hm (by show _ ≠ _; simp; omega) _
      have hr := lab_look_ok L1 (str nm) (by rw [str_size]; unfold maxLen; omega)
      rw [str_data] at hr
      unfold placeV at hr
      have HW1 := Lib.hid hW1
      have HKO : KeepsOthers W W1 := by rw [hW1]; exact KeepsOthers.setCell _ _ _
      have HB1 : Below w.heap.size W W1 := by rw [hW1]; exact (Below.refl w.heap.size W).setCell (p := ⟨w.heap.size + 1 + 1, 0, none⟩) (by show w.heap.size ≤ w.heap.size + 1 + 1; omega) _
      clear hnm hm e1 e4
      have HSN := Lib.hid (fun y => labAt_snoc (vals pre) (a, en) y)
      obtain ⟨f, hf⟩ : ∃ f, labAt (vals pre) = f := ⟨_, rfl⟩
      rw [hf] at hr L1
      have HF := Lib.hid hf
      have HL1 := Lib.hid L1
      clear hf L1
      clear hW1
      cases hfn : f nm with
      | some p =>
        obtain ⟨px, py⟩ := p
        rw [hfn] at hr
        dsimp only [Option.getD, Option.isSome] at hr
        have HFN := Lib.hid hfn
        clear hfn
        gi_wp2_with (first | (refine ⟨trivial, ?_⟩; gi_at_call 23; rw [← HW1.out]; refine (CallsIn.inRound l (callsIn_wide.2 (labelling_any _ _ hsa))).mono ?_; rintro e w' ⟨rfl, hw⟩; obtain rfl := hw.symm; rw [str_data, HLB.out]) | (refine ⟨trivial, ?_⟩; gi_at_call 43; refine (CallsIn.inRound l (callsIn_wide.2 (named_any _ _ hsa))).mono ?_; rintro e w' ⟨rfl, hw⟩; obtain rfl := hw.symm; rw [str_data, HNM.out]))
        refine ⟨trivial, ?_⟩
        gi_wp2
        refine ⟨(HKO.trans (KeepsOthers.alloc _ _)).from _, HB1.alloc (by rw [hz1]; exact hsz) _, ?_⟩
        refine lbI_one (x := ⟨(a, en), hal⟩) HLB.out HI.out W1 _ (by rw [HK.out]; exact HW1.out) _ f none (.inl rfl) (World.grownBy.refl _ _) (labMap_le (labMap_B ((Below.refl _ W1).alloc (Nat.le_refl _) _) HL1.out) (Nat.le_succ _)) (fun y => ?_)
        rw [vals_snoc, HSN.out, HF.out]
        by_cases hy : y = nm
        · subst hy
          rw [HFN.out]; rfl
        · rw [if_neg (fun q => hy (by rw [← q.2.1]; exact HNM.out)), Option.or_none]
      | none =>
        rw [hfn] at hr
        dsimp only [Option.getD, Option.isSome] at hr
        have HFN := Lib.hid hfn
        clear hfn
        cases en with
        | false =>
          gi_wp2_with (first | (refine ⟨trivial, ?_⟩; gi_at_call 23; rw [← HW1.out]; refine (CallsIn.inRound l (callsIn_wide.2 (labelling_any _ _ hsa))).mono ?_; rintro e w' ⟨rfl, hw⟩; obtain rfl := hw.symm; rw [str_data, HLB.out]) | (refine ⟨trivial, ?_⟩; gi_at_call 43; refine (CallsIn.inRound l (callsIn_wide.2 (named_any _ _ hsa))).mono ?_; rintro e w' ⟨rfl, hw⟩; obtain rfl := hw.symm; rw [str_data, HNM.out]))
          refine ⟨trivial, ?_⟩
          gi_wp2
          refine ⟨(HKO.trans (KeepsOthers.alloc _ _)).from _, HB1.alloc (by rw [hz1]; exact hsz) _, ?_⟩
          refine lbI_one (x := ⟨(a, false), hal⟩) HLB.out HI.out W1 _ (by rw [HK.out]; exact HW1.out) _ f none (.inl rfl) (World.grownBy.refl _ _) (labMap_le (labMap_B ((Below.refl _ W1).alloc (Nat.le_refl _) _) HL1.out) (Nat.le_succ _)) (fun y => ?_)
          rw [vals_snoc, HSN.out, HF.out]
          rw [if_neg (fun q => by cases q.2.2.1), Option.or_none]
        | true =>
          cases hnb : nameB nm with
          | false =>
            have HB := Lib.hid hnb
            clear hnb
            gi_wp2_with (first | (refine ⟨trivial, ?_⟩; gi_at_call 23; rw [← HW1.out]; refine (CallsIn.inRound l (callsIn_wide.2 (labelling_any _ _ hsa))).mono ?_; rintro e w' ⟨rfl, hw⟩; obtain rfl := hw.symm; rw [str_data, HLB.out]) | (refine ⟨trivial, ?_⟩; gi_at_call 43; refine (CallsIn.inRound l (callsIn_wide.2 (named_any _ _ hsa))).mono ?_; rintro e w' ⟨rfl, hw⟩; obtain rfl := hw.symm; rw [str_data, HNM.out]) | (refine ⟨trivial, ?_⟩; gi_at_call 44; refine (CallsIn.inRound l (callsIn_wide.2 (isName_any _ _))).mono ?_; rintro e w' ⟨rfl, hw⟩; obtain rfl := hw.symm; rw [str_data, HB.out]))
            refine ⟨(HKO.trans (KeepsOthers.alloc _ _)).from _, HB1.alloc (by rw [hz1]; exact hsz) _, ?_⟩
            refine lbI_one (x := ⟨(a, true), hal⟩) HLB.out HI.out W1 _ (by rw [HK.out]; exact HW1.out) _ f none (.inl rfl) (World.grownBy.refl _ _) (labMap_le (labMap_B ((Below.refl _ W1).alloc (Nat.le_refl _) _) HL1.out) (Nat.le_succ _)) (fun y => ?_)
            rw [vals_snoc, HSN.out, HF.out]
            by_cases hy : y = nm
            · subst hy
              rw [if_neg (fun q => by rw [HB.out] at q; cases q.2.2.2), Option.or_none]
            · rw [if_neg (fun q => hy (by rw [← q.2.1]; exact HNM.out)), Option.or_none]
          | true =>
            have HB := Lib.hid hnb
            clear hnb
            have L2 : LabMap (W1.alloc (Obj.cells #[Value.int .i64 0, Value.int .i64 0] 71)) w.heap.size pre.length f := labMap_B ((Below.refl _ W1).alloc (Nat.le_refl _) _) HL1.out
            obtain ⟨W2, hrun, L3, hg3⟩ := labMap_put (f' := fun y => if y = nm then some (((k : Int) + 1), (m : Int)) else f y) L2 (str nm) (by rw [str_size]; unfold maxLen; omega) (by rw [HK.out]; unfold maxLen; omega) ((k : Int) + 1) m (fun y => by rw [str_data])
            have j1 := cellA (Obj.cells #[Value.int .i64 0, Value.int .i64 0] 71) k1
            have j2 := cellA (Obj.cells #[Value.int .i64 0, Value.int .i64 0] 71) k2
            have j4 := cellA (Obj.cells #[Value.int .i64 0, Value.int .i64 0] 71) k4
            have HL3 := Lib.hid L3
            have HG3 := Lib.hid hg3
            clear L3 hg3 L2
            gi_wp2_with (first | (refine ⟨trivial, ?_⟩; gi_at_call 23; rw [← HW1.out]; refine (CallsIn.inRound l (callsIn_wide.2 (labelling_any _ _ hsa))).mono ?_; rintro e w' ⟨rfl, hw⟩; obtain rfl := hw.symm; rw [str_data, HLB.out]) | (refine ⟨trivial, ?_⟩; gi_at_call 43; refine (CallsIn.inRound l (callsIn_wide.2 (named_any _ _ hsa))).mono ?_; rintro e w' ⟨rfl, hw⟩; obtain rfl := hw.symm; rw [str_data, HNM.out]) | (refine ⟨trivial, ?_⟩; gi_at_call 44; refine (CallsIn.inRound l (callsIn_wide.2 (isName_any _ _))).mono ?_; rintro e w' ⟨rfl, hw⟩; obtain rfl := hw.symm; rw [str_data, HB.out]))
            refine ⟨((HKO.trans (KeepsOthers.alloc _ _)).from _).trans (KeepsFrom.of_grownBy HG3.out (fun j e => by cases e; omega)), (HB1.alloc (by rw [hz1]; exact hsz) _).grown HG3.out (by rw [World.size_alloc, hz1]; omega) (fun r e => by cases e; exact Nat.le_refl _), ?_⟩
            refine lbI_one (x := ⟨(a, true), hal⟩) HLB.out HI.out W1 _ (by rw [HK.out]; exact HW1.out) _ _ _ (.inr rfl) HG3.out HL3.out (fun y => ?_)
            rw [vals_snoc, HSN.out, HF.out]
            by_cases hy : y = nm
            · subst hy
              rw [if_pos rfl, HFN.out, if_pos ⟨HLB.out, HNM.out, trivial, HB.out⟩, vals_len, HK.out, HM.out]
              rfl
            · rw [if_neg hy, if_neg (fun q => hy (by rw [← q.2.1]; exact HNM.out)), Option.or_none]
  case done =>
    rintro D ys W hD hys ⟨⟨e1, e2, e3, e4, e5⟩, hm, hb⟩ hK
    have HY := Lib.hid hys
    clear hys
    gi_wp2
    refine ⟨by simp, .inl ⟨_, _, rfl, run_takeDeferred hK, ?_⟩⟩
    refine ⟨_, results_tmp rfl _ _ _, w.heap.size, ys.length, rfl, Nat.le_refl _, ?_, ?_, ?_⟩
    · rw [← vals_len, HY.out]; exact hN
    · rw [HY.out] at hm
      exact labMap_kept hm (grownBy_putObj' _ D _) (by simp; omega)
    · exact hb.trans (belowK_b (w := w) (Nat.le_refl _) W D _ _ (by omega) hK rfl rfl)
  case stop =>
    rintro D c pre W hD - h -
    exact h.elim
end Go.Proofs.YthcogkcjmhjjmaaDoor
