/- Where: package asm's and the document's own. -/
import Derived.Test.YtlkeacekdmjafaaDoorAsX
namespace Go.Proofs.YtlkeacekdmjafaaDoor
open Go.ChangeShapes Go.WideShapes Go.ChangeAt Go.RowKit
open Gen

theorem where_bad (t : Bs) (q : ByteArray) (n e : Int) (w : World) (ht : t.length ≤ 40000) (G : Glob w) (hp : parseL t = ([], n, e)) (he : e ≠ 0) :
    Calls Tryd.prog 18 #[.string (str t), .string q] w fun e' w' => e' = .returned (.tuple #[.int .i64 0, .int .i64 e]) ∧ Below w.heap.size w w' := by
  have hp1 := Parse_v t w ht G
  rw [hp] at hp1
  have he2 : (e != 0) = true := by simpa using he
  go_enter Tryd.func18, Tryd.ntmps18
  go_wp2_with (go_at_call 9; refine hp1.mono ?_; clear hp1; rintro e' w1 ⟨a1, c1, rfl, -, -, -, b1⟩)
  go_ret2
  exact ⟨rfl, b1⟩
set_option maxRecDepth 100000 in
set_option maxHeartbeats 1000000 in
theorem where_ok (t : Bs) (q : ByteArray) (a : List Ins) (w : World) (ht : t.length ≤ 40000) (hq : q.size ≤ 1000000) (G : Glob w) (hp : parseL t = (a, 0, 0)) :
    Calls Tryd.prog 18 #[.string (str t), .string q] w fun e' w' => e' = .returned (.tuple #[.int .i64 ((labAt (linesL t) q.data.toList).getD (0, 0)).2, .int .i64 (if (labAt (linesL t) q.data.toList).isSome then 0 else 8)]) ∧ Below w.heap.size w w' := by
  have hp1 := Parse_v t w ht G
  rw [hp] at hp1
  cases hf : labAt (linesL t) q.data.toList with
  | none =>
    have HF := Lib.hid hf
    clear hf
    go_enter Tryd.func18, Tryd.ntmps18
    go_wp2_with (first | (go_at_call 9; refine hp1.mono ?_; clear hp1; rintro e' w1 ⟨a1, c1, rfl, -, -, -, b1⟩; have G1 := G.B b1) | (go_at_call 20; refine (labelled_any t _ (by omega) G1).mono ?_; rintro e' w2 ⟨b, N, rfl, -, -, L, b2⟩; have hr := lab_look_ok L q (by unfold maxLen; omega); unfold placeV at hr; rw [HF.out] at hr; dsimp only [Option.getD, Option.isSome] at hr; have B2 := below_from b1 b2))
    go_ret2
    exact ⟨rfl, B2.alloc B2.size _⟩
  | some p =>
    obtain ⟨x, y⟩ := p
    have HF := Lib.hid hf
    clear hf
    go_enter Tryd.func18, Tryd.ntmps18
    go_wp2_with (first | (go_at_call 9; refine hp1.mono ?_; clear hp1; rintro e' w1 ⟨a1, c1, rfl, -, -, -, b1⟩; have G1 := G.B b1) | (go_at_call 20; refine (labelled_any t _ (by omega) G1).mono ?_; rintro e' w2 ⟨b, N, rfl, -, -, L, b2⟩; have hr := lab_look_ok L q (by unfold maxLen; omega); unfold placeV at hr; rw [HF.out] at hr; dsimp only [Option.getD, Option.isSome] at hr; have B2 := below_from b1 b2))
    go_ret2
    exact ⟨rfl, B2.alloc B2.size _⟩

/-- in a text that is read, no line but a label's name with its colon ends in one -/
theorem targ_none {q : Bs} (hq : nameB q = false) : ∀ (ls : List Bs) (k : Nat), (∀ x ∈ ls, labB x = true → nameB (nmL x) = true) → targR ls k q = none
  | [], _, _ => rfl
  | x :: r, k, h => by
    have hx : x ≠ q ++ [58] := by
      intro e
      have h2 := (label_iff x q).2 e
      have h3 := h x List.mem_cons_self h2.1
      rw [h2.2, hq] at h3
      cases h3
    rw [targR, if_neg hx]
    exact targ_none hq r _ (fun y hy => h y (List.mem_cons_of_mem _ hy))
theorem targ_more (q : Bs) : ∀ (ls : List Bs) (k : Nat), targR (ls ++ [[]]) k q = targR ls k q
  | [], k => by
    show targR [[]] k q = none
    simp only [targR]
    rw [if_neg (by intro e; have := congrArg List.length e; simp at this)]
  | x :: r, k => by
    rw [List.cons_append, targR, targR, targ_more q r]
theorem where_same {t q : Bs} {a : List Ins} (ht : t.length ≤ 40000) (hp : parseL t = (a, 0, 0)) : (targR (parts 10 t) 0 q).map (fun (m : Nat) => (m : Int)) = (labAt (linesL t) q).map (·.2) := by
  obtain ⟨ls, z, hz⟩ : ∃ ls z, parts 10 t = ls ++ [z] := ⟨_, _, (List.dropLast_concat_getLast (parts_ne 10 _)).symm⟩
  have hok : AllOk (labAt (linesL t)) (linesL t) := by
    rw [parseL, if_neg (by omega)] at hp
    rcases parseOf_cases (linesL t) (labAt (linesL t)) with ⟨k1, _⟩ | ⟨i, x, k1, k2, k3⟩
    · exact k1
    · rw [k3] at hp; injection hp with _ hp; injection hp with _ hp; exact absurd hp k2
  have hz0 : z = [] := by
    refine Classical.byContradiction fun h => ?_
    have h2 := hok ls.length (z, false) (by rw [lines_parts hz, if_neg h, List.getElem?_append_right (by rw [ends_len]; omega), ends_len]; simp)
    have := errL_ended h2
    cases this
  subst hz0
  have hl : linesL t = ends ls := by rw [lines_parts hz, if_pos rfl, List.append_nil]
  rw [hz, hl, targ_more]
  by_cases hq : nameB q = true
  · exact (targ_go hq ls 0 0).symm
  · have hq : nameB q = false := by simpa using hq
    have h1 : targR ls 0 q = none := targ_none hq ls 0 (fun x hx hlx => by
      obtain ⟨i, hi, rfl⟩ := List.mem_iff_getElem.1 hx
      have h2 := hok i (ls[i], true) (by rw [hl, ends, List.getElem?_map]; simp [hi])
      exact (errL_label h2 hlx).1)
    have h2 : labAt (ends ls) q = none := by
      cases h : labAt (ends ls) q with
      | none => rfl
      | some p =>
        exfalso
        have : ∀ (l : List (Bs × Bool)) (n k : Nat), labAt.go l n k q = none := by
          intro l
          induction l with
          | nil => intro n k; rfl
          | cons x r ih =>
            intro n k
            simp only [labAt.go]
            split
            · rw [if_neg (fun h3 => by rw [hq] at h3; simp at h3)]
              exact ih _ _
            · exact ih _ _
        rw [show labAt (ends ls) q = labAt.go (ends ls) 0 0 q from rfl, this] at h
        cases h
    rw [h1, h2]
    rfl
def whV (o : Option Nat) : Value := .tuple #[.int .i64 (o.getD 0 : Nat), .int .i64 (if o.isSome then 0 else 8)]
set_option maxRecDepth 100000 in
set_option maxHeartbeats 1000000 in
theorem refWhere_any (t : Bs) (q : ByteArray) (w : World) (ht : t.length ≤ 40000) (hq : q.size ≤ 50000) :
    Calls Tryd.prog 19 #[.string (str t), .string q] w fun e' w' => e' = .returned (whV (targR (parts 10 t) 0 q.data.toList)) ∧ Below w.heap.size w w' := by
  have hsp := refSplit_v (str t) 10 10 rfl w (by rw [str_size]; omega)
  rw [str_data] at hsp
  have hn : (parts 10 t).length ≤ 50001 := by have := parts_len 10 t; omega
  have hl : ∀ x ∈ parts 10 t, x.length ≤ 50000 := fun x hx => by have := parts_short 10 t x hx; omega
  obtain ⟨ps, hps⟩ : ∃ ps, parts 10 t = ps := ⟨_, rfl⟩
  rw [hps] at hsp hn hl ⊢
  unfold SplitV at hsp
  go_enter Tryd.func19, Tryd.ntmps19
  go_wp2_with fail
  refine hsp.mono ?_
  rintro e w1 ⟨a1, c1, rfl, -, -, V1, b1⟩
  have hta := refTarget_any a1 ps.length c1 ps q w1 V1 hn hl hq
  cases hr : targR ps 0 q.data.toList with
  | none =>
    rw [hr] at hta
    go_wp2_with fail
    refine hta.mono ?_
    rintro e w2 ⟨rfl, hw⟩
    cases hw
    unfold targV
    dsimp only [Option.getD, Option.isSome]
    go_wp2
    go_ret2
    rw [hr]
    exact ⟨rfl, b1⟩
  | some v =>
    rw [hr] at hta
    go_wp2_with fail
    refine hta.mono ?_
    rintro e w2 ⟨rfl, hw⟩
    cases hw
    unfold targV
    dsimp only [Option.getD, Option.isSome]
    go_wp2
    go_ret2
    rw [hr]
    exact ⟨rfl, b1⟩
end Go.Proofs.YtlkeacekdmjafaaDoor
