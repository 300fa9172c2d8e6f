/- All stages one behind the other: the rows that come of them are those of the test, sorted. Nothing of the program is walked here. -/
import Derived.Test.YtiebaeaomgpicaaGreatRcF
import Derived.Test.YtiebaeaomgpicaaGreatLitS
import Derived.Test.YtiebaeaomgpicaaGreatMathTb
namespace Go.Proofs.YtiebaeaomgpicaaGreat
open Go.Sort
theorem lessB_cmp : ∀ x y : List Int, lessB x y = decide (cmpL x y < 0)
  | [], [] => rfl
  | [], _ :: _ => by simp [lessB, cmpL]
  | _ :: _, [] => by simp [lessB, cmpL]
  | x :: xs, y :: ys => by
    rw [lessB, cmpL, lessB_cmp xs ys]
    rcases cmpZ_cases x y with ⟨h, e⟩ | ⟨h, e⟩ | ⟨h, e⟩
    · rw [if_neg (by omega), e, if_neg (by decide)]; simp [h]
    · rw [if_pos h, e, if_pos rfl]
    · rw [if_neg (by omega), e, if_neg (by decide)]; simp; omega
/-- a row in its place -/
def insP (o : List Int) : List (List Int) → List (List Int)
  | [] => o :: []
  | x :: xs => if lessB o x = true then o :: x :: xs else x :: insP o xs
theorem putR_done (o : List Int) : ∀ (l acc : List (List Int)), l.foldl (stepP o) (true, acc) = (true, acc ++ l)
  | [], acc => by simp
  | x :: l, acc => by rw [List.foldl_cons, stepP, if_neg (by simp), putR_done o l]; simp
theorem putR_ins (o : List Int) : ∀ (l acc : List (List Int)), (if (l.foldl (stepP o) (false, acc)).1 = true then (l.foldl (stepP o) (false, acc)).2 else (l.foldl (stepP o) (false, acc)).2 ++ o :: []) = acc ++ insP o l
  | [], acc => by simp [insP]
  | x :: l, acc => by
    by_cases h : lessB o x = true
    · have e : stepP o (false, acc) x = (true, acc ++ o :: x :: []) := if_pos ⟨rfl, h⟩
      rw [List.foldl_cons, e, putR_done, insP, if_pos h]; simp
    · have e : stepP o (false, acc) x = (false, acc ++ x :: []) := if_neg (fun q => h q.2)
      rw [List.foldl_cons, e, putR_ins o l, insP, if_neg h]; simp
theorem putP_ins {l : List (List Int)} {o : List Int} (h : ¬ o ∈ l) : putP l o = insP o l := by
  have := putR_ins o l []
  rw [putP, if_neg h, putR]
  simpa using this
theorem insP_perm (o : List Int) : ∀ l : List (List Int), (insP o l).Perm (o :: l)
  | [] => List.Perm.refl _
  | x :: l => by
    rw [insP]
    split
    · exact List.Perm.refl _
    · exact ((insP_perm o l).cons x).trans (List.Perm.swap o x l)
def Lt (x y : List Int) : Prop := cmpL x y < 0
theorem insP_sorted (o : List Int) : ∀ l : List (List Int), l.Pairwise Lt → ¬ o ∈ l → (insP o l).Pairwise Lt
  | [], _, _ => by simp [insP]
  | x :: l, h, hn => by
    rw [List.pairwise_cons] at h
    rw [insP, lessB_cmp]
    by_cases hc : cmpL o x < 0
    · rw [if_pos (by simpa using hc), List.pairwise_cons, List.pairwise_cons]
      exact ⟨fun y hy => by
        rcases List.mem_cons.1 hy with rfl | hy
        · exact hc
        · exact cmpL_trans _ _ _ hc (h.1 y hy), h⟩
    · rw [if_neg (by simpa using hc), List.pairwise_cons]
      refine ⟨fun y hy => ?_, insP_sorted o l h.2 (fun hm => hn (List.mem_cons_of_mem _ hm))⟩
      rcases List.mem_cons.1 ((insP_perm o l).mem_iff.1 hy) with rfl | hy
      · have hne : cmpL x y ≠ 0 := fun e => hn (by rw [cmpL_eq _ _ e]; exact List.mem_cons_self)
        have hf := cmpL_flip y x
        show cmpL x y < 0
        omega
      · exact h.1 y hy
/-- rows put in one by one are sorted -/
theorem putAll : ∀ (xs l : List (List Int)), (l ++ xs).Nodup → l.Pairwise Lt → (xs.foldl putP l).Pairwise Lt ∧ (xs.foldl putP l).Perm (l ++ xs)
  | [], l, _, h => ⟨h, by simp⟩
  | x :: xs, l, hn, h => by
    have hx : ¬ x ∈ l := fun hm => by
      have := List.nodup_append.1 hn
      exact this.2.2 x hm x List.mem_cons_self rfl
    rw [List.foldl_cons, putP_ins hx]
    have hp : (insP x l ++ xs).Perm (l ++ x :: xs) := by
      refine ((insP_perm x l).append_right xs).trans ?_
      exact (List.perm_middle (l₁ := l) (a := x) (l₂ := xs)).symm
    obtain ⟨h1, h2⟩ := putAll xs (insP x l) (hp.nodup_iff.2 hn) (insP_sorted x l h hx)
    exact ⟨h1, h2.trans hp⟩
theorem putAll_srt {xs : List (List Int)} (hn : xs.Nodup) : xs.foldl putP [] = srtL xs := by
  obtain ⟨h1, h2⟩ := putAll xs [] (by simpa using hn) (by simp)
  rw [List.nil_append] at h2
  refine List.Perm.eq_of_pairwise (le := fun x y => (!(ltOf cmpL) y x) = true) (fun a b _ _ h1 h2 => totL a b (by simpa using h2) (by simpa using h1)) ?_ (srt_sorted xs) (h2.trans (List.mergeSort_perm xs _).symm)
  refine h1.imp ?_
  intro x y h
  have hf := cmpL_flip x y
  unfold Lt at h
  simp [ltOf]; omega
section
variable {W D : Int} {ts : List (List Mv)}
structure Bfs (W D : Int) (ts : List (List Mv)) (i : Nat) (all : List St) (out : List (List Int)) : Prop where
  nd : all.Nodup
  rch : ∀ s ∈ all, Reach W D ts s
  beg : beginS W D ts ∈ all
  le : i ≤ all.length
  nxt : ∀ j s, j < i → all[j]? = some s → ∀ t ∈ nextS ts.length s, t ∈ all
  out : out = (((all.take i).filter fun s => endedB s ts.length).map outS).foldl putP []
theorem bfs_begin : Bfs W D ts 0 (beginS W D ts :: []) [] := by
  refine ⟨by simp, fun s hs => ?_, List.mem_cons_self, Nat.zero_le _, fun j s h => by omega, rfl⟩
  rw [List.mem_singleton] at hs
  subst hs; exact .refl
/-- what adding does to stages that can be reached -/
theorem addS_mem (hm : mayL W D ts = true) {all : List St} {t : St} (ha : ∀ s ∈ all, Reach W D ts s) (ht : Reach W D ts t) : (t ∈ all → addS ts all t = all) ∧ (¬ t ∈ all → addS ts all t = all ++ t :: []) := by
  have key : all.any (fun x => sameS ts x t) = true ↔ t ∈ all := by
    rw [List.any_eq_true]
    constructor
    · rintro ⟨x, hx, h⟩
      rw [← (same_eq hm (reach_ok hm (ha x hx)) (reach_ok hm ht)).1 h]; exact hx
    · intro h
      exact ⟨t, h, (same_eq hm (reach_ok hm ht) (reach_ok hm ht)).2 rfl⟩
  exact ⟨fun h => if_pos (key.2 h), fun h => if_neg (fun e => h (key.1 e))⟩
theorem addAll (hm : mayL W D ts = true) : ∀ (xs all : List St), all.Nodup → (∀ s ∈ all, Reach W D ts s) → (∀ t ∈ xs, Reach W D ts t) → ∃ more, xs.foldl (addS ts) all = all ++ more ∧ (all ++ more).Nodup ∧ (∀ s ∈ all ++ more, Reach W D ts s) ∧ ∀ t ∈ xs, t ∈ all ++ more
  | [], all, hn, ha, _ => ⟨[], by simp, by simpa using hn, by simpa using ha, by simp⟩
  | x :: xs, all, hn, ha, hx => by
    have hr := hx x List.mem_cons_self
    obtain ⟨h1, h2⟩ := addS_mem hm ha hr
    rw [List.foldl_cons]
    by_cases hc : x ∈ all
    · rw [h1 hc]
      obtain ⟨more, e, n, r, k⟩ := addAll hm xs all hn ha (fun t ht => hx t (List.mem_cons_of_mem _ ht))
      exact ⟨more, e, n, r, fun t ht => by
        rcases List.mem_cons.1 ht with rfl | ht
        · exact List.mem_append_left _ hc
        · exact k t ht⟩
    · rw [h2 hc]
      obtain ⟨more, e, n, r, k⟩ := addAll hm xs (all ++ x :: []) (by
        rw [List.nodup_append]
        exact ⟨hn, by simp, fun a h b hb e => by rw [List.mem_singleton] at hb; subst e hb; exact hc h⟩) (fun s hs => by
          rcases List.mem_append.1 hs with hs | hs
          · exact ha s hs
          · rw [List.mem_singleton] at hs; subst hs; exact hr) (fun t ht => hx t (List.mem_cons_of_mem _ ht))
      refine ⟨x :: more, by rw [e]; simp, by simpa using n, by simpa using r, fun t ht => ?_⟩
      rcases List.mem_cons.1 ht with rfl | ht
      · simp
      · have := k t ht
        simpa using this
theorem bfs_step (hm : mayL W D ts = true) {i : Nat} {all : List St} {out : List (List Int)} {s : St} (B : Bfs W D ts i all out) (hs : all[i]? = some s) :
    Bfs W D ts (i + 1) ((nextS ts.length s).foldl (addS ts) all) (if endedB s ts.length = true then putP out (outS s) else out) := by
  obtain ⟨hi, rfl⟩ := List.getElem?_eq_some_iff.1 hs
  have hr := B.rch _ (List.getElem_mem hi)
  have hnx : ∀ t ∈ nextS ts.length all[i], Reach W D ts t := fun t ht => by
    cases hf : endedB all[i] ts.length with
    | true => rw [ended_next hm (reach_ok hm hr) hf] at ht; cases ht
    | false => exact .step hr hf ht
  obtain ⟨more, e, n, r, k⟩ := addAll hm _ all B.nd B.rch hnx
  rw [e]
  have htk : (all ++ more).take (i + 1) = all.take i ++ all[i] :: [] := by
    rw [List.take_append_of_le_length (by omega), List.take_succ_eq_append_getElem hi]
  refine ⟨n, r, List.mem_append_left _ B.beg, by rw [List.length_append]; omega, fun j s hj hg t ht => ?_, ?_⟩
  · rw [List.getElem?_append_left (by omega)] at hg
    by_cases c : j = i
    · subst c
      rw [hs] at hg
      cases hg
      exact k t ht
    · exact List.mem_append_left _ (B.nxt j s (by omega) hg t ht)
  · rw [htk, List.filter_append, List.map_append, List.foldl_append, ← B.out]
    cases hf : endedB all[i] ts.length with
    | true => simp [hf]
    | false => simp [hf]
theorem bfs_end (hm : mayL W D ts = true) {all : List St} {out : List (List Int)} (B : Bfs W D ts all.length all out) : out = srtL (rowsL W D ts) := by
  have ho := B.out
  rw [List.take_of_length_le (Nat.le_refl _)] at ho
  have hn : ((all.filter fun s => endedB s ts.length).map outS).Nodup := by
    refine List.Pairwise.map outS (fun a b h => h) ?_
    refine List.Pairwise.imp_of_mem ?_ (B.nd.filter _)
    intro a b ha hb hab hout
    rw [List.mem_filter] at ha hb
    exact hab (out_inj hm (reach_ok hm (B.rch a ha.1)) (reach_ok hm (B.rch b hb.1)) ha.2 hb.2 hout)
  rw [ho, putAll_srt hn]
  refine srt_same hn (rows_once hm).1 fun o => ?_
  rw [(rows_once hm).2 o, List.mem_map]
  constructor
  · rintro ⟨s, hs, rfl⟩
    rw [List.mem_filter] at hs
    exact ⟨s, B.rch s hs.1, hs.2, rfl⟩
  · rintro ⟨s, hs, hd, rfl⟩
    refine ⟨s, ?_, rfl⟩
    rw [List.mem_filter]
    refine ⟨reach_all B.beg (fun x hx t ht => ?_) hs, hd⟩
    obtain ⟨j, hj, rfl⟩ := List.mem_iff_getElem.1 hx
    exact B.nxt j _ hj (List.getElem?_eq_getElem hj) t ht
end
end Go.Proofs.YtiebaeaomgpicaaGreat
