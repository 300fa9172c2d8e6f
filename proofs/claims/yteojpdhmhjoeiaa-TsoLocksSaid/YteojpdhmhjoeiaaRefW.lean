/- Contracts of the document's own answers of layer 3 (package respiteref03): Store. -/
import Derived.Test.YteojpdhmhjoeiaaRefV
namespace Go.Proofs.Yteojpdhmhjoeiaa
open Go.ChangeShapes Go.WideShapes Go.ChangeAt Go.RowKit

/-- a machine and an error -/
def RefTP (ws ts : List Int) (D : Int) (bs : List (List (Int × Int))) (x : Int) (w : World) (e : Ending) (w' : World) : Prop :=
  ∃ a n c a' n' c' q l d, e = .returned (.tuple #[.agg #[.slice a n c, .slice a' n' c', .int .i64 D, .slice q l d], .int .i64 x]) ∧ Sl w' a n ws ∧ Sl w' a' n' ts ∧ Bl w' q l bs ∧ Below w.heap.size w w'
theorem refTP_no {A B : List Int} {z E : Int} {C : List (List (Int × Int))} (he : E ≠ 0) {w w' : World} (hb : Below w.heap.size w w') : RefTP (okL E A) (okL E B) (okZ E z) (okL E C) E w (.returned (.tuple #[.agg #[.slice none 0 0, .slice none 0 0, .int .i64 0, .slice none 0 0], .int .i64 E])) w' := by
  rw [okL_neg he, okL_neg he, okZ_neg he, okL_neg he]
  exact ⟨_, _, _, _, _, _, _, _, _, rfl, sl_nil _, sl_nil _, bl_nil _, hb⟩
theorem refTP_yes {A B : List Int} {z E : Int} {C : List (List (Int × Int))} (he : E = 0) {w w' : World} {a a' q : Option Addr} {n c n' c' l d : Nat} (s1 : Sl w' a n A) (s2 : Sl w' a' n' B) (s3 : Bl w' q l C) (hb : Below w.heap.size w w') :
    RefTP (okL E A) (okL E B) (okZ E z) (okL E C) E w (.returned (.tuple #[.agg #[.slice a n c, .slice a' n' c', .int .i64 z, .slice q l d], .int .i64 0])) w' := by
  subst he
  exact ⟨_, _, _, _, _, _, _, _, _, rfl, s1, s2, s3, hb⟩
theorem withBs_all {bs : List (List (Int × Int))} {j : Nat} {b : List (Int × Int)} {l : Nat} (hl : bs.length = l) : withBs bs j b l = bs.set j b := by rw [← hl, withBs_set]

end Go.Proofs.Yteojpdhmhjoeiaa
