/- Plain facts on what package memory answers: what a store and marks change. -/
import Derived.Test.YtmkpjmcekoenbaaMathA
namespace Go.Proofs.Ytmkpjmcekoenbaa

theorem getD_set (l : List Int) (i j : Nat) (v : Int) (hj : j < l.length) : (l.set i v).getD j 0 = if i = j then v else l.getD j 0 := by
  simp only [List.getD_eq_getElem?_getD, List.getElem?_set]
  by_cases e : i = j
  · subst e; simp [hj]
  · simp [e]
theorem may_set {ws ts : List Int} {i : Nat} {v : Int} (h : mayB ws ts = true) (ht : ts.getD i 0 ≠ 0) : mayB (ws.set i v) ts = true := by
  have hz := mayB_size h
  have hg := mayB_good h
  simp only [mayB, Bool.and_eq_true, sizeB, decide_eq_true_eq, List.length_set]
  refine ⟨hz, goodB_iff.2 fun j hj => ?_⟩
  have := hg j hj
  simp only [okB, decide_eq_true_eq] at this ⊢
  refine ⟨this.1, this.2.1, fun h0 => ?_⟩
  rw [getD_set _ _ _ _ hj]
  by_cases e : i = j
  · subst e; exact absurd h0 ht
  · rw [if_neg e]; exact this.2.2 h0
theorem usable_set {ws ts : List Int} {i k : Int} {v : Int} (h : usableZ ws ts i = 0) : usableZ (ws.set i.toNat v) ts k = usableZ ws ts k := by
  obtain ⟨hm, h0, h1, h2⟩ := usable_zero h
  have hm' : mayB (ws.set i.toNat v) ts = true := may_set hm (by rw [h2]; decide)
  simp only [usableZ, hm, hm', List.length_set]
theorem load_set {ws ts : List Int} {i k : Int} {v : Int} (h : usableZ ws ts i = 0) (hk : k ≠ i) : loadZ (ws.set i.toNat v) ts k = loadZ ws ts k := by
  obtain ⟨hm, h0, h1, h2⟩ := usable_zero h
  simp only [loadZ, usable_set h]
  by_cases e : usableZ ws ts k = 0
  · obtain ⟨_, k0, k1, _⟩ := usable_zero e
    rw [if_pos e, if_pos e, getD_set _ _ _ _ (by omega), if_neg (by omega)]
  · rw [if_neg e, if_neg e]
theorem load_same {ws ts : List Int} {i : Int} {v : Int} (h : usableZ ws ts i = 0) : loadZ (ws.set i.toNat v) ts i = v := by
  obtain ⟨hm, h0, h1, h2⟩ := usable_zero h
  simp only [loadZ, usable_set h]
  rw [if_pos h, getD_set _ _ _ _ (by omega), if_pos rfl]
end Go.Proofs.Ytmkpjmcekoenbaa
