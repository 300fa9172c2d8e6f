/- RefT, RefU, RefC, RefV, RefW, RefX, RefY, RefZ, put together. -/
import Derived.Test.YtcpebnafoalhnaaM7
import Derived.Test.YtcpebnafoalhnaaM4
import Derived.Deep.RegionWith
import Derived.Test.YtcpebnafoalhnaaM1
/- Contracts of the document's own answers of layer 3 (package respiteref03): Sizes, Right, Same, New. -/
namespace Go.Proofs.Ytcpebnafoalhnaa
open Go.ChangeShapes Go.WideShapes Go.ChangeAt Go.RowKit

end Go.Proofs.Ytcpebnafoalhnaa
/- Contracts of the document's own answers of layer 3 (package respiteref03): New. -/
namespace Go.Proofs.Ytcpebnafoalhnaa
open Go.ChangeShapes Go.WideShapes Go.ChangeAt Go.RowKit

/-- a machine with a row of buffers of its own -/
def RefNewP (a a' : Option Addr) (n c n' c' : Nat) (D : Int) (k : Nat) (bs : List (List (Int × Int))) (w : World) (e : Ending) (w' : World) : Prop :=
  ∃ q d, e = .returned (.agg #[.slice a n c, .slice a' n' c', .int .i64 D, .slice q k d]) ∧ Bl w' q k bs ∧ Below w.heap.size w w'

end Go.Proofs.Ytcpebnafoalhnaa
/- Contracts of respiteref01: Store, Mark, New. -/
namespace Go.Proofs.Ytcpebnafoalhnaa
open Go.ChangeShapes Go.WideShapes Go.ChangeAt Go.RowKit

/-- a memory and an error, where the memory may lie in the one that was handed in -/
def MemRes (ws ts : List Int) (x : Int) (w : World) (e : Ending) (w' : World) : Prop :=
  ∃ a n c a' n' c', e = .returned (.tuple #[.agg #[.slice a n c, .slice a' n' c'], .int .i64 x]) ∧ Sl w' a n ws ∧ Sl w' a' n' ts ∧ Below w.heap.size w w'

/-- the same, and of the rows' blocks Q holds -/
def MemResQ (Q : Nat → Prop) (ws ts : List Int) (x : Int) (w : World) (e : Ending) (w' : World) : Prop :=
  ∃ a n c a' n' c', e = .returned (.tuple #[.agg #[.slice a n c, .slice a' n' c'], .int .i64 x]) ∧ SlP Q w' a n ws ∧ SlP Q w' a' n' ts ∧ Below w.heap.size w w'

end Go.Proofs.Ytcpebnafoalhnaa
/- Contracts of the document's own answers of layer 3 (package respiteref03): Load, with, Store. -/
namespace Go.Proofs.Ytcpebnafoalhnaa
open Go.ChangeShapes Go.WideShapes Go.ChangeAt Go.RowKit

/-- the values of a row of buffers, of all blocks of which Q holds -/
def BValsQ (Q : Nat → Prop) (w : World) (vs : List Value) (bs : List (List (Int × Int))) : Prop := vs.length = bs.length ∧ ∀ i, i < bs.length → ∃ q c, vs[i]? = some (.slice q (bs.getD i []).length c) ∧ CapOk q (bs.getD i []).length c ∧ PlQ Q w q (bs.getD i []).length (bs.getD i [])
theorem bvalsQ_nil (Q : Nat → Prop) (w : World) : BValsQ Q w [] [] := ⟨rfl, fun i hi => by simp at hi⟩
theorem bvalsQB {Q : Nat → Prop} {w w' : World} {vs : List Value} {bs : List (List (Int × Int))} (hb : Below w.heap.size w w') (h : BValsQ Q w vs bs) : BValsQ Q w' vs bs :=
  ⟨h.1, fun i hi => by obtain ⟨q, c, h1, h2, h3⟩ := h.2 i hi; exact ⟨q, c, h1, h2, plQB hb h3⟩⟩
theorem bvalsQ_snoc {Q : Nat → Prop} {w : World} {vs : List Value} {bs : List (List (Int × Int))} {q : Option Addr} {n c : Nat} {b : List (Int × Int)} (h : BValsQ Q w vs bs) (hc : CapOk q n c) (hp : PlQ Q w q n b) : BValsQ Q w (vs ++ [.slice q n c]) (bs ++ [b]) := by
  obtain rfl : b.length = n := hp.1
  refine ⟨by simp [h.1], fun i hi => ?_⟩
  rw [List.length_append, List.length_singleton] at hi
  by_cases e : i = bs.length
  · subst e
    refine ⟨q, c, ?_, ?_, ?_⟩
    · rw [List.getElem?_append_right (by rw [h.1]; exact Nat.le_refl _), h.1]; simp
    · simpa using hc
    · simpa using hp
  · have hi' : i < bs.length := by omega
    obtain ⟨q', c', h1, h2, h3⟩ := h.2 i hi'
    have e2 : (bs ++ [b]).getD i [] = bs.getD i [] := by
      simp only [List.getD_eq_getElem?_getD]
      rw [List.getElem?_append_left hi']
    rw [e2]
    exact ⟨q', c', by rw [List.getElem?_append_left (by rw [h.1]; exact hi')]; exact h1, h2, h3⟩
theorem ownsRow_blQ {Q : Nat → Prop} {e B : Nat} {w : World} {v : Value} {n : Nat} {vs : List Value} {bs : List (List (Int × Int))} (h : w.ownsRow B e 1 v n vs) (hv : BValsQ Q w vs bs) (hQ : ∀ b, B ≤ b → Q b) : ∃ a c, v = .slice a n c ∧ CapOk a n c ∧ BlP Q w a n bs := by
  obtain ⟨hl, h⟩ := h
  have hl' : bs.length = n := by rw [← hv.1, hl, Nat.mul_one]
  rcases h with ⟨rfl, h0⟩ | ⟨g, cap, cur, rfl, hb, hg, hn, hm, hs, ht⟩
  · exact ⟨none, 0, by rw [h0], by subst h0; exact capOk_nil, hl', .inl h0⟩
  · unfold maxLen at hm
    refine ⟨_, _, rfl, ⟨hn, by omega, fun e => by cases e⟩, hl', .inr ⟨g, 0, rfl, hQ _ hb, fun i hi => ?_⟩⟩
    obtain ⟨q, c, h1, h2, h3⟩ := hv.2 i hi
    refine ⟨q, c, ?_, h2, h3⟩
    simp only [World.cell?, hg]
    rw [← ht, List.getElem?_take, if_pos (by omega)] at h1
    simpa using h1
theorem blP_at {Q : Nat → Prop} {w : World} {a : Option Addr} {n : Nat} {bs : List (List (Int × Int))} (h : BlP Q w a n bs) {i : Nat} (hi : i < n) :
    ∃ b o q c, a = some ⟨b, o, none⟩ ∧ w.cell? ⟨b, o + i, none⟩ = some (.slice q (bs.getD i []).length c) ∧ CapOk q (bs.getD i []).length c ∧ PlQ Q w q (bs.getD i []).length (bs.getD i []) := by
  obtain ⟨b, o, e, _, r⟩ := h.2.resolve_left (by omega)
  obtain ⟨q, c, h1, h2, h3⟩ := r i (by rw [h.1]; exact hi)
  exact ⟨b, o, q, c, e, h1, h2, h3⟩
theorem blP_old {Q : Nat → Prop} {w : World} {a : Option Addr} {n : Nat} {bs : List (List (Int × Int))} (hQ : ∀ b, b < w.heap.size → Q b) (h : Bl w a n bs) : BlP Q w a n bs := by
  refine ⟨h.1, ?_⟩
  by_cases h0 : n = 0
  · exact .inl h0
  · obtain ⟨b, o, e, r⟩ := h.2.resolve_left h0
    obtain ⟨q, c, h1, _⟩ := r 0 (by have := h.1; omega)
    refine .inr ⟨b, o, e, hQ _ (cell_lt h1), fun i hi => ?_⟩
    obtain ⟨q', c', k1, k2, k3⟩ := r i hi
    exact ⟨q', c', k1, k2, plQ_old hQ k3⟩
theorem withBs_succ (bs : List (List (Int × Int))) (i : Int) (b : List (Int × Int)) (k : Nat) : withBs bs i b (k + 1) = withBs bs i b k ++ [withB bs i b k] := rfl

end Go.Proofs.Ytcpebnafoalhnaa
/- Contracts of the document's own answers of layer 3 (package respiteref03): Store. -/
namespace Go.Proofs.Ytcpebnafoalhnaa
open Go.ChangeShapes Go.WideShapes Go.ChangeAt Go.RowKit

/-- a machine and an error -/
def RefTP (ws ts : List Int) (D : Int) (bs : List (List (Int × Int))) (x : Int) (w : World) (e : Ending) (w' : World) : Prop :=
  ∃ a n c a' n' c' q l d, e = .returned (.tuple #[.agg #[.slice a n c, .slice a' n' c', .int .i64 D, .slice q l d], .int .i64 x]) ∧ Sl w' a n ws ∧ Sl w' a' n' ts ∧ Bl w' q l bs ∧ Below w.heap.size w w'
theorem refTP_no {A B : List Int} {z E : Int} {C : List (List (Int × Int))} (he : E ≠ 0) {w w' : World} (hb : Below w.heap.size w w') : RefTP (okL E A) (okL E B) (okZ E z) (okL E C) E w (.returned (.tuple #[.agg #[.slice none 0 0, .slice none 0 0, .int .i64 0, .slice none 0 0], .int .i64 E])) w' := by
  rw [okL_neg he, okL_neg he, okZ_neg he, okL_neg he]
  exact ⟨_, _, _, _, _, _, _, _, _, rfl, sl_nil _, sl_nil _, bl_nil _, hb⟩
theorem refTP_yes {A B : List Int} {z E : Int} {C : List (List (Int × Int))} (he : E = 0) {w w' : World} {a a' q : Option Addr} {n c n' c' l d : Nat} (s1 : Sl w' a n A) (s2 : Sl w' a' n' B) (s3 : Bl w' q l C) (hb : Below w.heap.size w w') :
    RefTP (okL E A) (okL E B) (okZ E z) (okL E C) E w (.returned (.tuple #[.agg #[.slice a n c, .slice a' n' c', .int .i64 z, .slice q l d], .int .i64 0])) w' := by
  subst he
  exact ⟨_, _, _, _, _, _, _, _, _, rfl, s1, s2, s3, hb⟩
theorem withBs_all {bs : List (List (Int × Int))} {j : Nat} {b : List (Int × Int)} {l : Nat} (hl : bs.length = l) : withBs bs j b l = bs.set j b := by rw [← hl, withBs_set]

end Go.Proofs.Ytcpebnafoalhnaa
/- Contracts of the document's own answers of layer 3 (package respiteref03): Drop, Flush. -/
namespace Go.Proofs.Ytcpebnafoalhnaa
open Go.ChangeShapes Go.WideShapes Go.ChangeAt Go.RowKit

theorem blP_lt {Q : Nat → Prop} {w : World} {a : Option Addr} {n : Nat} {bs : List (List (Int × Int))} (h : BlP Q w a n bs) : BlP (fun b => Q b ∧ b < w.heap.size) w a n bs := by
  refine ⟨h.1, ?_⟩
  by_cases h0 : n = 0
  · exact .inl h0
  · obtain ⟨b, o, e, hq, r⟩ := h.2.resolve_left h0
    obtain ⟨q, c, h1, _⟩ := r 0 (by have := h.1; omega)
    refine .inr ⟨b, o, e, ⟨hq, cell_lt h1⟩, fun i hi => ?_⟩
    obtain ⟨q', c', k1, k2, k3⟩ := r i hi
    refine ⟨q', c', k1, k2, k3.1, ?_⟩
    by_cases hz : (bs.getD i []).length = 0
    · exact .inl hz
    · obtain ⟨b2, o2, e2, hq2, r2⟩ := k3.2.resolve_left hz
      exact .inr ⟨b2, o2, e2, ⟨hq2, cell_lt (r2 0 (by omega)).1⟩, r2⟩

end Go.Proofs.Ytcpebnafoalhnaa
/- Contracts of the document's own answers of layer 3 (package respiteref03): Flush. -/
namespace Go.Proofs.Ytcpebnafoalhnaa
open Go.ChangeShapes Go.WideShapes Go.ChangeAt Go.RowKit

/-- the memory that a store told, in a variable of one's own -/
def FlushCut (F0 : Nat) (W : World) (ws ts : List Int) (E : Int) (s7 s8 : Value) (wx : World) : Prop :=
  ∃ g a n c a' n' c', s7 = .pointer (some ⟨g, 0, none⟩) ∧ s8 = .int .i64 E ∧ W.heap.size ≤ g ∧ wx.cell? ⟨g, 0, none⟩ = some (.slice a n c) ∧ wx.cell? ⟨g, 1, none⟩ = some (.slice a' n' c') ∧ SlP (fun b => b < F0 ∨ W.heap.size ≤ b) wx a n ws ∧ SlP (fun b => b < F0 ∨ W.heap.size ≤ b) wx a' n' ts ∧ Below W.heap.size W wx
theorem flushCut_new {F0 : Nat} {W wx : World} {ws ts : List Int} {E : Int} {a a' : Option Addr} {n c n' c' : Nat} (hb : Below W.heap.size W wx) (u1 : SlP (fun b => b < F0 ∨ W.heap.size ≤ b) wx a n ws) (u2 : SlP (fun b => b < F0 ∨ W.heap.size ≤ b) wx a' n' ts) :
    FlushCut F0 W ws ts E (.pointer (some ⟨wx.heap.size, 0, none⟩)) (.int .i64 E) (wx.alloc (.cells #[.slice a n c, .slice a' n' c'] 46)) :=
  ⟨_, _, _, _, _, _, _, rfl, rfl, hb.size, cell_new _ _ _ rfl rfl, cell_new _ _ _ rfl rfl, slPA _ u1, slPA _ u2, hb.alloc hb.size _⟩
theorem flushCut_set {F0 : Nat} {W wx : World} {ws ts : List Int} {E : Int} {a a' : Option Addr} {n c n' c' : Nat} {x y : Value} (hF : F0 ≤ W.heap.size) (hb : Below W.heap.size W wx) (Y0 : wx.cell? ⟨W.heap.size, 0, none⟩ = some x) (Y1 : wx.cell? ⟨W.heap.size, 1, none⟩ = some y)
    (u1 : SlP (fun b => b < F0 ∨ W.heap.size + 1 ≤ b) wx a n ws) (u2 : SlP (fun b => b < F0 ∨ W.heap.size + 1 ≤ b) wx a' n' ts) :
    FlushCut F0 W ws ts E (.pointer (some ⟨W.heap.size, 0, none⟩)) (.int .i64 E) ((wx.setCell ⟨W.heap.size, 0, none⟩ (.slice a n c)).setCell ⟨W.heap.size, 1, none⟩ (.slice a' n' c')) := by
  have k : ∀ b, (b < F0 ∨ W.heap.size + 1 ≤ b) → b ≠ W.heap.size := fun b h => by omega
  refine ⟨_, _, _, _, _, _, _, rfl, rfl, Nat.le_refl _, set2_0 _ _ (by rw [Y0]; rfl), set2_1 _ _ (by rw [Y1]; rfl), ?_, ?_, (hb.setCell (p := ⟨W.heap.size, 0, none⟩) (Nat.le_refl _) _).setCell (p := ⟨W.heap.size, 1, none⟩) (Nat.le_refl _) _⟩
  · exact slP_mono (fun b h => by omega) (slP_set ⟨W.heap.size, 1, none⟩ k _ (slP_set ⟨W.heap.size, 0, none⟩ k _ u1))
  · exact slP_mono (fun b h => by omega) (slP_set ⟨W.heap.size, 1, none⟩ k _ (slP_set ⟨W.heap.size, 0, none⟩ k _ u2))

theorem var4_set01 {w : World} {g : Nat} {x y z u : Value} (h : Var4 w g x y z u) (x' y' : Value) : Var4 ((w.setCell ⟨g, 0, none⟩ x').setCell ⟨g, 1, none⟩ y') g x' y' z u := by
  obtain ⟨⟨a, b, c, d⟩, e, f, i, j⟩ := h
  have ne : ∀ k i, k ≠ i → (⟨g, k, none⟩ : Addr) ≠ ⟨g, i, none⟩ := fun k i hk e => hk (congrArg Addr.off e)
  refine ⟨⟨set2_0 _ _ (by rw [a]; rfl), set2_1 _ _ (by rw [b]; rfl), ?_, ?_⟩, ?_, ?_, ?_, ?_⟩
  · rw [World.cell?_setCell_other _ _ _ _ (ne _ _ (by decide)), World.cell?_setCell_other _ _ _ _ (ne _ _ (by decide))]; exact c
  · rw [World.cell?_setCell_other _ _ _ _ (ne _ _ (by decide)), World.cell?_setCell_other _ _ _ _ (ne _ _ (by decide))]; exact d
  all_goals (rw [World.frozen?_setCell, World.frozen?_setCell]; assumption)
theorem set2_old {W wx : World} {b o : Nat} {v x y : Value} (hb : Below W.heap.size W wx) (h : W.cell? ⟨b, o, none⟩ = some v) : ((wx.setCell ⟨W.heap.size, 0, none⟩ x).setCell ⟨W.heap.size, 1, none⟩ y).cell? ⟨b, o, none⟩ = some v := by
  have ne : ∀ j, (⟨W.heap.size, j, none⟩ : Addr) ≠ ⟨b, o, none⟩ := fun j e => by have h1 := congrArg Addr.block e; have h2 := cell_lt h; dsimp only at h1 h2; omega
  rw [World.cell?_setCell_other _ _ _ _ (ne _), World.cell?_setCell_other _ _ _ _ (ne _)]
  exact cellB hb h

end Go.Proofs.Ytcpebnafoalhnaa
/- Contracts of the document's own answers of layer 3 (package respiteref03): Locked. -/
namespace Go.Proofs.Ytcpebnafoalhnaa
open Go.ChangeShapes Go.WideShapes Go.ChangeAt Go.RowKit

/-- a machine, a word and an error -/
def RefLP (ws ts : List Int) (D : Int) (bs : List (List (Int × Int))) (v x : Int) (w : World) (e : Ending) (w' : World) : Prop :=
  ∃ a n c a' n' c' q l d, e = .returned (.tuple #[.agg #[.slice a n c, .slice a' n' c', .int .i64 D, .slice q l d], .int .i64 v, .int .i64 x]) ∧ Sl w' a n ws ∧ Sl w' a' n' ts ∧ Bl w' q l bs ∧ Below w.heap.size w w'
theorem refLP_no {A B : List Int} {z u E : Int} {C : List (List (Int × Int))} (he : E ≠ 0) {w w' : World} (hb : Below w.heap.size w w') : RefLP (okL E A) (okL E B) (okZ E z) (okL E C) (okZ E u) E w (.returned (.tuple #[.agg #[.slice none 0 0, .slice none 0 0, .int .i64 0, .slice none 0 0], .int .i64 0, .int .i64 E])) w' := by
  rw [okL_neg he, okL_neg he, okZ_neg he, okL_neg he, okZ_neg he]
  exact ⟨_, _, _, _, _, _, _, _, _, rfl, sl_nil _, sl_nil _, bl_nil _, hb⟩
theorem refLP_yes {A B : List Int} {z u E : Int} {C : List (List (Int × Int))} (he : E = 0) {w w' : World} {a a' q : Option Addr} {n c n' c' l d : Nat} (s1 : Sl w' a n A) (s2 : Sl w' a' n' B) (s3 : Bl w' q l C) (hb : Below w.heap.size w w') :
    RefLP (okL E A) (okL E B) (okZ E z) (okL E C) (okZ E u) E w (.returned (.tuple #[.agg #[.slice a n c, .slice a' n' c', .int .i64 z, .slice q l d], .int .i64 u, .int .i64 0])) w' := by
  subst he
  exact ⟨_, _, _, _, _, _, _, _, _, rfl, s1, s2, s3, hb⟩

end Go.Proofs.Ytcpebnafoalhnaa
