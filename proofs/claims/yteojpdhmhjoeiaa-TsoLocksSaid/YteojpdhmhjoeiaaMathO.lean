/- Plain facts on machines: what a store leaves, and who sees it. -/
import Derived.Test.YteojpdhmhjoeiaaMathT
namespace Go.Proofs.Yteojpdhmhjoeiaa

theorem mayT_iff {ws ts : List Int} {D : Int} {bs : List (List (Int × Int))} : mayT ws ts D bs = true ↔ mayB ws ts = true ∧ sizesB bs.length D = true ∧ ∀ b ∈ bs, bufB ws.length D b = true := by
  simp only [mayT, Bool.and_eq_true, List.all_eq_true, and_assoc]
theorem bufB_snoc {N : Nat} {D x v : Int} {b : List (Int × Int)} (hb : bufB N D b = true) (hl : (b.length : Int) ≠ D) (h0 : 0 ≤ x) (h1 : x < N) : bufB N D (b ++ [(x, v)]) = true := by
  simp only [bufB, Bool.and_eq_true, decide_eq_true_eq, List.all_eq_true] at hb ⊢
  refine ⟨by rw [List.length_append, List.length_singleton]; have := hb.1; omega, fun p hp => ?_⟩
  rcases List.mem_append.1 hp with h | h
  · exact hb.2 p h
  · simp at h; subst h; simp [inP, h0, h1]
theorem may_of_set {ws ts : List Int} {D x v : Int} {bs : List (List (Int × Int))} (hm : mayT ws ts D bs = true) (hu : usableZ ws ts x = 0) : mayT (ws.set x.toNat v) ts D bs = true := by
  obtain ⟨h1, h2, h3⟩ := mayT_iff.1 hm
  obtain ⟨_, _, _, ht⟩ := usable_zero hu
  refine mayT_iff.2 ⟨may_set h1 (by rw [ht]; decide), h2, ?_⟩
  rw [List.length_set]; exact h3
theorem may_of_buf {ws ts : List Int} {D : Int} {bs : List (List (Int × Int))} {j : Nat} {b : List (Int × Int)} (hm : mayT ws ts D bs = true) (hb : bufB ws.length D b = true) : mayT ws ts D (bs.set j b) = true := by
  obtain ⟨h1, h2, h3⟩ := mayT_iff.1 hm
  refine mayT_iff.2 ⟨h1, by rw [List.length_set]; exact h2, fun c hc => ?_⟩
  rcases List.mem_or_eq_of_mem_set hc with h | h
  · exact h3 c h
  · rw [h]; exact hb
theorem may_bufOf {ws ts : List Int} {D th : Int} {bs : List (List (Int × Int))} (h : hasB ws ts D bs th = true) : bufB ws.length D (bufOf bs th) = true := by
  obtain ⟨hm, h0, h1⟩ := hasB_parts h
  have e : bufOf bs th = bs[th.toNat]'(by omega) := by simp [bufOf, show th.toNat < bs.length by omega]
  rw [e]
  exact (mayT_iff.1 hm).2.2 _ (List.getElem_mem _)
theorem bufOf_set {bs : List (List (Int × Int))} {th o : Int} {b : List (Int × Int)} (h0 : 0 ≤ th) (h1 : th < bs.length) (h2 : 0 ≤ o) : bufOf (bs.set th.toNat b) o = if o = th then b else bufOf bs o := by
  simp only [bufOf, List.getD_eq_getElem?_getD, List.getElem?_set]
  by_cases e : o = th
  · subst e; rw [if_pos rfl, if_pos rfl, if_pos (by omega)]; rfl
  · rw [if_neg (by omega), if_neg e]
theorem store_zero {ws ts : List Int} {D th x : Int} {bs : List (List (Int × Int))} (h : storeTE ws ts D bs th x = 0) : hasB ws ts D bs th = true ∧ usableZ ws ts x = 0 ∧ (D = 0 ∨ (D ≠ 0 ∧ ((bufOf bs th).length : Int) ≠ D)) := by
  unfold storeTE at h
  split at h
  · rename_i h1
    split at h
    · rename_i h2
      refine ⟨h1, h2, ?_⟩
      split at h
      · left; assumption
      · rename_i h3
        split at h
        · simp at h
        · right; exact ⟨h3, by assumption⟩
    · exact absurd h (by assumption)
  · simp at h
theorem has_th {ws ts ws' : List Int} {D th o : Int} {bs bs' : List (List (Int × Int))} (h : hasB ws ts D bs th = true) (hm : mayT ws' ts D bs' = true) (hl : bs'.length = bs.length) : hasB ws' ts D bs' o = hasB ws ts D bs o := by
  have h1 := (hasB_parts h).1
  simp only [hasB, hm, h1, thB, hl]
theorem bufs_nil {ws ts : List Int} {th : Int} {bs : List (List (Int × Int))} (h : hasB ws ts 0 bs th = true) : bufOf bs th = [] := by
  have := may_bufOf h
  simp only [bufB, Bool.and_eq_true, decide_eq_true_eq] at this
  exact List.eq_nil_of_length_eq_zero (by omega)
theorem loadT_of {ws ts : List Int} {D th x : Int} {bs : List (List (Int × Int))} : loadT ws ts D bs th x = if hasB ws ts D bs th = true then (if usableZ ws ts x = 0 then (newest (bufOf bs th) x).getD (loadZ ws ts x) else 0) else 0 := by
  unfold loadT loadTE
  by_cases h : hasB ws ts D bs th = true
  · rw [if_pos h, if_pos h]
  · rw [if_neg h, if_neg h]; rfl

/-- what a store leaves: same threads, places, and what each sees -/
theorem store_after {ws ts : List Int} {D th x v : Int} {bs : List (List (Int × Int))} (h : storeTE ws ts D bs th x = 0) (o k : Int) :
    loadTE (storeTW ws D x v) ts D (storeTB D bs th x v) o k = loadTE ws ts D bs o k ∧
    loadT (storeTW ws D x v) ts D (storeTB D bs th x v) o k = if loadTE ws ts D bs o k = 0 ∧ k = x ∧ (o = th ∨ D = 0) then v else loadT ws ts D bs o k := by
  obtain ⟨hh, hu, hd⟩ := store_zero h
  obtain ⟨hm, t0, t1⟩ := hasB_parts hh
  rcases hd with rfl | ⟨hd, hl⟩
  · have e1 : storeTW ws 0 x v = ws.set x.toNat v := if_pos rfl
    have e2 : storeTB 0 bs th x v = bs := if_pos rfl
    rw [e1, e2]
    have hm' := may_of_set (v := v) hm hu
    have hhs : hasB (ws.set x.toNat v) ts 0 bs o = hasB ws ts 0 bs o := has_th hh hm' rfl
    have hus : usableZ (ws.set x.toNat v) ts k = usableZ ws ts k := usable_set hu
    have hE : loadTE (ws.set x.toNat v) ts 0 bs o k = loadTE ws ts 0 bs o k := by simp only [loadTE, hhs, hus]
    refine ⟨hE, ?_⟩
    rw [loadT_of, loadT_of, hhs, hus]
    by_cases ho : hasB ws ts 0 bs o = true
    · rw [if_pos ho, if_pos ho, bufs_nil ho]
      have hE2 : loadTE ws ts 0 bs o k = usableZ ws ts k := if_pos ho
      rw [hE2]
      by_cases hk : usableZ ws ts k = 0
      · rw [if_pos hk, if_pos hk]
        by_cases e : k = x
        · subst e; rw [if_pos ⟨hk, rfl, .inr rfl⟩, load_same hu]; rfl
        · rw [if_neg (fun h => e h.2.1), load_set hu e]
      · rw [if_neg hk, if_neg hk, if_neg (fun h => hk h.1)]
    · have hE2 : loadTE ws ts 0 bs o k = 1 := if_neg ho
      rw [if_neg ho, if_neg ho, hE2, if_neg (fun h => absurd h.1 (by decide))]
  · have e1 : storeTW ws D x v = ws := if_neg hd
    have e2 : storeTB D bs th x v = bs.set th.toNat (bufOf bs th ++ [(x, v)]) := if_neg hd
    rw [e1, e2]
    obtain ⟨_, x0, x1, _⟩ := usable_zero hu
    have hm' := may_of_buf (j := th.toNat) hm (bufB_snoc (v := v) (may_bufOf hh) hl x0 x1)
    have hhs : hasB ws ts D (bs.set th.toNat (bufOf bs th ++ [(x, v)])) o = hasB ws ts D bs o := has_th hh hm' (by rw [List.length_set])
    have hE : loadTE ws ts D (bs.set th.toNat (bufOf bs th ++ [(x, v)])) o k = loadTE ws ts D bs o k := by simp only [loadTE, hhs]
    refine ⟨hE, ?_⟩
    rw [loadT_of, loadT_of, hhs]
    by_cases ho : hasB ws ts D bs o = true
    · have hE2 : loadTE ws ts D bs o k = usableZ ws ts k := if_pos ho
      rw [if_pos ho, if_pos ho, hE2, bufOf_set t0 t1 (hasB_parts ho).2.1]
      by_cases hk : usableZ ws ts k = 0
      · rw [if_pos hk, if_pos hk]
        by_cases e : o = th
        · subst e
          rw [if_pos rfl, newest_snoc]
          by_cases ek : k = x
          · subst ek; rw [if_pos rfl, if_pos ⟨hk, rfl, .inl rfl⟩]; rfl
          · rw [if_neg (fun h => ek h.symm), if_neg (fun h => ek h.2.1)]
        · rw [if_neg e, if_neg (fun h => h.2.2.elim e hd)]
      · rw [if_neg hk, if_neg hk, if_neg (fun h => hk h.1)]
    · have hE2 : loadTE ws ts D bs o k = 1 := if_neg ho
      rw [if_neg ho, if_neg ho, hE2, if_neg (fun h => absurd h.1 (by decide))]
theorem store_own {ws ts : List Int} {D th x v : Int} {bs : List (List (Int × Int))} (h : storeTE ws ts D bs th x = 0) : loadTE (storeTW ws D x v) ts D (storeTB D bs th x v) th x = 0 ∧ loadT (storeTW ws D x v) ts D (storeTB D bs th x v) th x = v := by
  obtain ⟨h1, h2⟩ := store_after (v := v) h th x
  obtain ⟨hh, hu, _⟩ := store_zero h
  have hE : loadTE ws ts D bs th x = 0 := by rw [loadTE, if_pos hh, hu]
  exact ⟨h1.trans hE, by rw [h2, if_pos ⟨hE, rfl, .inl rfl⟩]⟩
theorem loadTE_range {ws ts : List Int} {D th x : Int} {bs : List (List (Int × Int))} : loadTE ws ts D bs th x = if hasB ws ts D bs th = true then usableZ ws ts x else 1 := rfl
end Go.Proofs.Yteojpdhmhjoeiaa
