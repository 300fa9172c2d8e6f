/- Package asm: what the variables of the library hold; labelling, named, fault, readTarget, readNumber, label. -/
import Derived.Test.YthcogkcjmhjjmaaDoorAsA
import Derived.Test.YthcogkcjmhjjmaaDoorMathN
import Derived.Test.YthcogkcjmhjjmaaDoorShelf
import Derived.WalkSmall
import Derived.Maps.OwnIn
import Derived.Maps.OwnSet
import Derived.Maps.Views
import Derived.Lib.AppendIntMem
import Derived.Lib.ItoaLen
import Derived.Lib.AtoiErrMem
namespace Go.Proofs.YthcogkcjmhjjmaaDoor
open Go.ChangeShapes Go.WideShapes Go.ChangeAt Go.RowKit
open Gen
open Go.Maps (Keyed)

abbrev str (l : Bs) : ByteArray := ⟨l.toArray⟩
/-- the cells of the table of operations -/
def opCells : List Value := (List.range 27).flatMap fun k => [.string (str (opName.getD k [])), .string (str (opSign.getD k []))]
structure Glob (w : World) : Prop where
  size : 9 ≤ w.heap.size
  mlen : ∃ m, w.cell? ⟨1, 0, none⟩ = some (.int .i64 m)
  syn : ∃ tp p, w.var? Tryd.prog "strconv.ErrSyntax" = some #[.iface tp p]
  rng : ∃ tp p, w.var? Tryd.prog "strconv.ErrRange" = some #[.iface tp p]
  pow : Lib.TabIs Tryd.prog w "internal/strconv.uint64pow10" .u64 Lib.pow10Tab
  ops : w.var? Tryd.prog "respite/asm.operations" = some opCells.toArray
theorem Tryd.gSyn : Tryd.prog.globalNamed "strconv.ErrSyntax" = some 3 := by kernel_rfl
theorem Tryd.gRng : Tryd.prog.globalNamed "strconv.ErrRange" = some 4 := by kernel_rfl
theorem Tryd.gPow : Tryd.prog.globalNamed "internal/strconv.uint64pow10" = some 2 := by kernel_rfl
theorem Tryd.gOps : Tryd.prog.globalNamed "respite/asm.operations" = some 0 := by kernel_rfl
theorem Glob.low {F : Nat} {w w' : World} (hF : 9 ≤ F) (hb : Below F w w') (h : Glob w) : Glob w' where
  size := Nat.le_trans h.size hb.size
  mlen := by obtain ⟨m, e⟩ := h.mlen; exact ⟨m, (hb.cell (p := ⟨_, 0, none⟩) (by show 1 < F; omega)).trans e⟩
  syn := by obtain ⟨a, b, e⟩ := h.syn; exact ⟨a, b, var?_below hb Tryd.gSyn (by omega) e⟩
  rng := by obtain ⟨a, b, e⟩ := h.rng; exact ⟨a, b, var?_below hb Tryd.gRng (by omega) e⟩
  pow := var?_below hb Tryd.gPow (by omega) h.pow
  ops := var?_below hb Tryd.gOps (by omega) h.ops
theorem Glob.B {w w' : World} (h : Glob w) (hb : Below w.heap.size w w') : Glob w' := h.low h.size hb
theorem Glob.A {w : World} (h : Glob w) (o : Obj) : Glob (w.alloc o) := h.B ((Below.refl _ _).alloc (Nat.le_refl _) _)

theorem bs_data (s : ByteArray) : (⟨s.data.toList.toArray⟩ : ByteArray) = s := by simp
theorem labelling_any (s : ByteArray) (w : World) (hs : s.size ≤ 9223372036854775807) : Calls Tryd.prog 23 #[.string s] w (PureB (labB s.data.toList) w) := by
  go_enter Tryd.func23, Tryd.ntmps23
  go_wp2_with (go_at_call 52; refine (Tryd.strings_HasSuffix _ _ _ hs).mono ?_; rintro e w' ⟨rfl, rfl⟩)
  go_ret
  exact pureB_mk rfl
theorem named_any (s : ByteArray) (w : World) (hs : s.size ≤ 9223372036854775807) : Calls Tryd.prog 43 #[.string s] w fun e w' => e = .returned (.string (str (nmL s.data.toList))) ∧ w' = w := by
  go_enter Tryd.func43, Tryd.ntmps43
  go_wp2_with (go_at_call 58; refine (Tryd.strings_TrimSuffix _ _ _ hs).mono ?_; rintro e w' ⟨rfl, rfl⟩)
  go_ret
  exact ⟨rfl, rfl⟩
theorem str_cons (b : UInt8) (l : Bs) : (⟨#[b]⟩ : ByteArray) ++ (⟨l.toArray⟩ : ByteArray) = str (b :: l) := by
  apply ByteArray.ext
  simp
theorem label_any (v : Int) (w : World) (h0 : -9223372036854775808 ≤ v) (h1 : v ≤ 9223372036854775807) (G : Glob w) : Calls Tryd.prog 32 #[.int .i64 v] w fun e w' => e = .returned (.string (str (108 :: Lib.itoa v))) ∧ Below w.heap.size w w' := by
  have hp := G.pow
  have hl := Lib.itoa_length_le v h0 h1
  have hl2 : ¬ 9223372036854775807 < 1 + (Lib.itoa v).length := by omega
  go_enter Tryd.func32, Tryd.ntmps32
  go_wp2_with (go_at_call 47; refine (Tryd.strconv_Itoa v h0 h1 _ hp).mono ?_; rintro e w' ⟨rfl, k, os, rfl⟩)
  go_ret
  exact ⟨congrArg (fun x => Ending.returned (Value.string x)) (str_cons _ _), Lib.below_grow _ _ (Nat.le_refl _) _ _⟩
theorem atoi_bounds {l : Bs} {v : Int} (h : Lib.atoiAll l = .ok v) : -9223372036854775808 ≤ v ∧ v ≤ 9223372036854775807 := by
  cases l with
  | nil => cases h
  | cons c r =>
    simp only [Lib.atoiAll] at h
    cases hp : Lib.parseMag (if c.toNat = 43 ∨ c.toNat = 45 then r else c :: r) with
    | ok u =>
      rw [hp] at h
      dsimp only at h
      split at h
      · cases h
      · split at h
        · cases h
        · injection h with h
          subst h
          split <;> omega
    | _ => rw [hp] at h; cases h
theorem str_eq {s : ByteArray} {l : Bs} : (str l).toList = s.toList ↔ l = s.data.toList := by
  rw [ByteArray.toList_eq, ByteArray.toList_eq]
theorem below_bytes {w w' : World} {t : TypeId} (h : w' = w ∨ ∃ s, w' = Lib.bytesWorld w t s) : Below w.heap.size w w' := by
  rcases h with rfl | ⟨s, rfl⟩
  · exact Below.refl _ _
  · exact Lib.bytesWorld_below _ _ _
set_option maxHeartbeats 1000000 in
theorem readNumber_any (s : ByteArray) (w : World) (hs : s.size ≤ 1000000) (G : Glob w) : Calls Tryd.prog 48 #[.string s] w fun e w' => e = .returned (.tuple #[.int .i64 (numE s.data.toList).1, .int .i64 (numE s.data.toList).2]) ∧ Below w.heap.size w w' := by
  cases h : Lib.atoiAll s.data.toList with
  | ok v =>
    obtain ⟨h0, h1⟩ := atoi_bounds h
    by_cases he : Lib.itoa v = s.data.toList
    · by_cases hf : -1000000000 ≤ v ∧ v ≤ 1000000000
      · have HE := Lib.hid (show numE s.data.toList = (v, 0) by simp only [numE, h]; rw [if_pos ⟨he, hf⟩])
        have HF := Lib.hid (show fitsK 110 v 0 = true by simp [fitsK, hf])
        clear hf
        rw [← ByteArray.toList_eq] at he
        replace he : ¬ ¬ Lib.itoa v = s.toList := not_not_intro he
        go_enter Tryd.func48, Tryd.ntmps48
        go_wp2_with (go_at_call 61; refine (Tryd.strconv_Atoi_ok s (by omega) v h _).mono ?_)
        rintro e w1 ⟨rfl, hw1⟩
        have hb1 := below_bytes hw1
        have hp := (G.B hb1).pow
        clear hw1 h
        go_wp2_with (first | (go_at_call 47; refine (Tryd.strconv_Itoa v h0 h1 _ hp).mono ?_; rintro e w' ⟨rfl, k, os, rfl⟩) | (go_at_call 57; refine (fits_k_any _ _ _ _).mono ?_; rintro e w' ⟨rfl, rfl⟩; rw [HF.out]))
        all_goals
          first
            | (exact absurd ‹_› he)
            | (go_ret2; rw [HE.out]; exact ⟨rfl, hb1.trans (Lib.below_grow _ _ hb1.size _ _)⟩)
      · have HE := Lib.hid (show numE s.data.toList = (0, 3) by simp only [numE, h]; rw [if_neg (fun q => hf q.2)])
        have HF := Lib.hid (show fitsK 110 v 0 = false by simp only [fitsK]; rw [if_neg (by decide), if_pos trivial, decide_eq_false_iff_not]; exact hf)
        clear hf
        rw [← ByteArray.toList_eq] at he
        replace he : ¬ ¬ Lib.itoa v = s.toList := not_not_intro he
        go_enter Tryd.func48, Tryd.ntmps48
        go_wp2_with (go_at_call 61; refine (Tryd.strconv_Atoi_ok s (by omega) v h _).mono ?_)
        rintro e w1 ⟨rfl, hw1⟩
        have hb1 := below_bytes hw1
        have hp := (G.B hb1).pow
        clear hw1 h
        go_wp2_with (first | (go_at_call 47; refine (Tryd.strconv_Itoa v h0 h1 _ hp).mono ?_; rintro e w' ⟨rfl, k, os, rfl⟩) | (go_at_call 57; refine (fits_k_any _ _ _ _).mono ?_; rintro e w' ⟨rfl, rfl⟩; rw [HF.out]))
        all_goals
          first
            | (exact absurd ‹_› he)
            | (go_ret2; rw [HE.out]; exact ⟨rfl, hb1.trans (Lib.below_grow _ _ hb1.size _ _)⟩)
    · have HE := Lib.hid (show numE s.data.toList = (0, 3) by simp only [numE, h]; rw [if_neg (fun q => he q.1)])
      rw [← ByteArray.toList_eq] at he
      go_enter Tryd.func48, Tryd.ntmps48
      go_wp2_with (go_at_call 61; refine (Tryd.strconv_Atoi_ok s (by omega) v h _).mono ?_)
      rintro e w1 ⟨rfl, hw1⟩
      have hb1 := below_bytes hw1
      have hp := (G.B hb1).pow
      clear hw1 h
      go_wp2_with (go_at_call 47; refine (Tryd.strconv_Itoa v h0 h1 _ hp).mono ?_; rintro e w' ⟨rfl, k, os, rfl⟩)
      all_goals
        first
          | (exact absurd ‹_› he)
          | (go_ret2; rw [HE.out]; exact ⟨rfl, hb1.trans (Lib.below_grow _ _ hb1.size _ _)⟩)
  | range =>
    obtain ⟨tp, p, hv⟩ := G.rng
    have HE := Lib.hid (show numE s.data.toList = (0, 3) by simp only [numE, h])
    go_enter Tryd.func48, Tryd.ntmps48
    go_wp2_with (go_at_call 61; refine (Tryd.strconv_Atoi_range_var s (by omega) h tp p _ hv).mono ?_)
    rintro e w1 ⟨N, rfl, -, -, hb1⟩
    clear h
    go_wp2
    go_ret2
    rw [HE.out]
    exact ⟨rfl, hb1⟩
  | _ =>
    obtain ⟨tp, p, hv⟩ := G.syn
    have HE := Lib.hid (show numE s.data.toList = (0, 3) by simp only [numE, h])
    go_enter Tryd.func48, Tryd.ntmps48
    go_wp2_with (go_at_call 61; refine (Tryd.strconv_Atoi_syntax_var s (by omega) (fun v q => by rw [h] at q; cases q) (fun q => by rw [h] at q; cases q) tp p _ hv).mono ?_)
    rintro e w1 ⟨N, rfl, -, -, hb1⟩
    clear h
    go_wp2
    go_ret2
    rw [HE.out]
    exact ⟨rfl, hb1⟩
end Go.Proofs.YthcogkcjmhjjmaaDoor
