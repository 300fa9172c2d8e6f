/- Plain mathematics of blocks that are taken one after another, and given back in another order. -/
import Derived.Test.YtnkhgofpdgnemaaPlX
namespace Go.Proofs.Ytnkhgofpdgnemaa
open Go.ChangeShapes Go.WideShapes Go.ChangeAt Go.RowKit

theorem plRv_len {s b : Int} {N j : Nat} (h : j ≤ N) : (plRv s b N j).length = j := by
  rw [plRv, List.length_take, List.length_reverse, plBl_length]; omega
theorem plRv_all (s b : Int) (N : Nat) : plRv s b N N = (plBl s b N).reverse := by
  rw [plRv, List.take_of_length_le (by rw [List.length_reverse, plBl_length]; omega)]
theorem plRv_last {s b : Int} {N j : Nat} (h : j < N) : (plRv s b N (j + 1)).getD j 0 = b + ((N - 1 - j : Nat) : Int) * s := by
  rw [plRev_step h]
  have hl : (plRv s b N j).length = j := plRv_len (by omega)
  simp [List.getD_eq_getElem?_getD, hl]
theorem plRv_take {s b : Int} {N j : Nat} : (plRv s b N (j + 1)).take j = plRv s b N j := by
  rw [plRv, plRv, List.take_take]; congr 1; omega
theorem plRv_right {s b m : Int} (hf : plFit s b m = true) (j : Nat) : plRight s b m (plRv s b m.toNat j) = true := plRight_take j (plRight_rev hf)
/-- what is in Free when K have been taken -/
theorem plRv_mem {s b x : Int} {N K : Nat} (hK : K ≤ N) (hx : x ∈ plRv s b N (N - K)) : ∃ k : Nat, K ≤ k ∧ k < N ∧ b + (k : Int) * s = x := by
  obtain ⟨i, hi, e⟩ := List.mem_iff_getElem.1 hx
  rw [plRv_len (by omega)] at hi
  have h1 : (plRv s b N (i + 1)).getD i 0 = b + ((N - 1 - i : Nat) : Int) * s := plRv_last (by omega)
  refine ⟨N - 1 - i, by omega, by omega, ?_⟩
  rw [← h1, ← e]
  simp only [plRv, List.getElem_take, List.getD_eq_getElem?_getD, List.getElem?_take, show i < i + 1 by omega, if_true]
  rw [List.getElem?_eq_getElem (by rw [List.length_reverse, plBl_length]; omega)]
  rfl
theorem plRv_has {s b : Int} {N K k : Nat} (h1 : K ≤ k) (h2 : k < N) : b + (k : Int) * s ∈ plRv s b N (N - K) := by
  have e : N - 1 - (N - 1 - k) = k := by omega
  have h := plRv_last (s := s) (b := b) (N := N) (j := N - 1 - k) (by omega)
  rw [e] at h
  rw [← h]
  have hl : (plRv s b N (N - 1 - k + 1)).length = N - 1 - k + 1 := plRv_len (by omega)
  have hs : plRv s b N (N - 1 - k + 1) = (plRv s b N (N - K)).take (N - 1 - k + 1) := by
    rw [plRv, plRv, List.take_take]; congr 1; omega
  rw [List.getD_eq_getElem?_getD, List.getElem?_eq_getElem (by omega), Option.getD_some]
  have hm := List.getElem_mem (l := plRv s b N (N - 1 - k + 1)) (n := N - 1 - k) (by omega)
  exact (show ∀ y, y ∈ plRv s b N (N - 1 - k + 1) → y ∈ plRv s b N (N - K) from fun y hy => by
    rw [hs] at hy; exact List.mem_of_mem_take hy) _ hm
/-- those that are held are those that were taken -/
theorem plHeld_taken {s b : Int} (hs : 1 ≤ s) {N K : Nat} (hK : K ≤ N) : plHeld s b N (plRv s b N (N - K)) = plBl s b K := by
  obtain ⟨d, hd⟩ : ∃ d, N = K + d := ⟨N - K, by omega⟩
  have key : ∀ k : Nat, k < N → plHas (plRv s b N (N - K)) (b + (k : Int) * s) = decide (K ≤ k) := by
    intro k hk
    by_cases h : K ≤ k
    · rw [plHas_iff.2 (plRv_has h hk)]; simp [h]
    · rw [plHas_not.2 (fun hm => by
        obtain ⟨k', h1, h2, e⟩ := plRv_mem hK hm
        have := pl_inj hs e
        omega)]
      simp [h]
  have step : ∀ j : Nat, j ≤ N → (plBl s b j).filter (fun x => !plHas (plRv s b N (N - K)) x) = plBl s b (min j K) := by
    intro j
    induction j with
    | zero => intro _; simp [plBl]
    | succ j ih =>
      intro hj
      rw [plBl_succ, List.filter_append, ih (by omega)]
      have hk := key j (by omega)
      by_cases h : K ≤ j
      · rw [show min (j + 1) K = min j K by omega]
        simp [hk, h]
      · rw [show min (j + 1) K = min j K + 1 by omega, plBl_succ, show min j K = j by omega]
        simp [hk, h]
  have := step N (Nat.le_refl _)
  rw [show min N K = K by omega] at this
  exact this

/-- the place that is given back i-th -/
def plIdx (K : Nat) (t : Int) (i : Nat) : Nat := (((i : Int) + t) % (K : Int)).toNat
theorem plIdx_lt {K : Nat} (h : 0 < K) (t : Int) (i : Nat) : plIdx K t i < K := by
  have h1 := Int.emod_lt_of_pos ((i : Int) + t) (show (0 : Int) < K by omega)
  have h2 := Int.emod_nonneg ((i : Int) + t) (show (K : Int) ≠ 0 by omega)
  unfold plIdx; omega
theorem plIdx_inj {K : Nat} (t : Int) {i j : Nat} (hi : i < K) (hj : j < K) (h : plIdx K t i = plIdx K t j) : i = j := by
  have h2 := Int.emod_nonneg ((i : Int) + t) (show (K : Int) ≠ 0 by omega)
  have h3 := Int.emod_nonneg ((j : Int) + t) (show (K : Int) ≠ 0 by omega)
  have h4 : ((i : Int) + t) % (K : Int) = ((j : Int) + t) % (K : Int) := by unfold plIdx at h; omega
  have h5 : (((i : Int) + t) - ((j : Int) + t)) % (K : Int) = 0 := Int.emod_eq_emod_iff_emod_sub_eq_zero.1 h4
  rw [show ((i : Int) + t) - ((j : Int) + t) = (i : Int) - j by omega] at h5
  obtain ⟨c, hc⟩ := Int.dvd_of_emod_eq_zero h5
  rcases Int.lt_trichotomy c 0 with hc0 | hc0 | hc0
  · have : (K : Int) * c ≤ (K : Int) * (-1) := Int.mul_le_mul_of_nonneg_left (by omega) (by omega)
    omega
  · subst hc0; omega
  · have : (K : Int) * 1 ≤ (K : Int) * c := Int.mul_le_mul_of_nonneg_left (by omega) (by omega)
    omega
/-- what Go makes of it -/
theorem plIdx_go {K : Nat} (h : 0 < K) (t : Int) (i : Nat) : ((((i : Int) + t).tmod K) + K).tmod K = (plIdx K t i : Int) := by
  have h1 := Int.emod_lt_of_pos ((i : Int) + t) (show (0 : Int) < K by omega)
  have h2 := Int.emod_nonneg ((i : Int) + t) (show (K : Int) ≠ 0 by omega)
  have e : (plIdx K t i : Int) = ((i : Int) + t) % (K : Int) := by unfold plIdx; omega
  rw [e]
  have hb := Int.tmod_lt_of_pos ((i : Int) + t) (show (0 : Int) < K by omega)
  have hb2 : -(K : Int) < ((i : Int) + t).tmod K := Int.lt_tmod_of_pos _ (by omega)
  rw [Int.tmod_eq_emod_of_nonneg (by omega), Int.add_emod_right]
  have h3 : ((i : Int) + t).tmod K = ((i : Int) + t) - K * (((i : Int) + t).tdiv K) := by
    have := Int.tmod_add_mul_tdiv ((i : Int) + t) K; omega
  rw [h3, Int.sub_mul_emod_self_left]
/-- what has been given back when i have -/
def plGn (s b : Int) (K : Nat) (t : Int) (i : Nat) : List Int := (List.range i).map fun j => b + (plIdx K t j : Int) * s
theorem plGn_succ (s b : Int) (K : Nat) (t : Int) (i : Nat) : plGn s b K t (i + 1) = plGn s b K t i ++ [b + (plIdx K t i : Int) * s] := by simp [plGn, List.range_succ]
theorem plGn_len (s b : Int) (K : Nat) (t : Int) (i : Nat) : (plGn s b K t i).length = i := by simp [plGn]
theorem plGn_new {s b : Int} (hs : 1 ≤ s) {N K i : Nat} (hK : K ≤ N) (hi : i < K) (t : Int) : b + (plIdx K t i : Int) * s ∉ plRv s b N (N - K) ++ plGn s b K t i := by
  have hl := plIdx_lt (show 0 < K by omega) t i
  rw [List.mem_append]
  rintro (h | h)
  · obtain ⟨k, h1, h2, e⟩ := plRv_mem hK h
    have := pl_inj hs e
    omega
  · simp only [plGn, List.mem_map, List.mem_range] at h
    obtain ⟨j, hj, e⟩ := h
    have := plIdx_inj t (by omega) hi (pl_inj hs e)
    omega
theorem plGn_right {s b m : Int} (hf : plFit s b m = true) {K : Nat} (hK : K ≤ m.toNat) (t : Int) : ∀ i, i ≤ K → plRight s b m (plRv s b m.toNat (m.toNat - K) ++ plGn s b K t i) = true
  | 0, _ => by
    rw [show plGn s b K t 0 = [] from rfl, List.append_nil]
    exact plRv_right hf _
  | i + 1, hi => by
    rw [plGn_succ, ← List.append_assoc]
    refine plRight_snoc (plGn_right hf hK t i (by omega)) (plHas_iff.2 (plBl_mem.2 ⟨_, Nat.lt_of_lt_of_le (plIdx_lt (by omega) t i) hK, rfl⟩)) (plHas_not.2 (plGn_new (plFit_iff.1 hf).1 hK hi t))
/-- all are given back: nothing is held -/
theorem plGn_done {s b m : Int} (hf : plFit s b m = true) {K : Nat} (hK : K ≤ m.toNat) (t : Int) : plHeld s b m.toNat (plRv s b m.toNat (m.toNat - K) ++ plGn s b K t K) = [] := by
  obtain ⟨-, h2⟩ := plRight_iff.1 (plGn_right hf hK t K (Nat.le_refl _))
  have h3 := (pl_good_len (plFit_iff.1 hf).1).2 h2
  have h4 := plIn_add s b m.toNat (plRv s b m.toNat (m.toNat - K) ++ plGn s b K t K)
  rw [List.length_append, plGn_len, plRv_len (by omega)] at h3
  exact List.eq_nil_of_length_eq_zero (by omega)
theorem plGive_new {s b m x : Int} {fs : List Int} (h : plRight s b m fs = true) (hx : plHas (plBl s b m.toNat) x = true) (hn : plHas fs x = false) : plGive ⟨s, b, m, fs⟩ x = (⟨s, b, m, fs ++ [x]⟩, 0) := by
  unfold plGive
  rw [if_pos (show plOkP ⟨s, b, m, fs⟩ = true from h)]
  simp [hx, hn]
theorem plGive_twice {s b m x : Int} {fs : List Int} (h : plRight s b m (fs ++ [x]) = true) : plGive ⟨s, b, m, fs ++ [x]⟩ x = (pl0, 5) := by
  obtain ⟨h1, h2⟩ := plRight_iff.1 h
  have hx : plHas (plBl s b m.toNat) x = true := plHas_iff.2 (h2.2 x (by simp))
  have hh : plHas (fs ++ [x]) x = true := plHas_iff.2 (by simp)
  unfold plGive
  rw [if_pos (show plOkP ⟨s, b, m, fs ++ [x]⟩ = true from h)]
  simp [hx, hh]
theorem plHeldZ_rv {s b m : Int} (hf : plFit s b m = true) {K : Nat} (hK : K ≤ m.toNat) : plHeldZ ⟨s, b, m, plRv s b m.toNat (m.toNat - K)⟩ = (plBl s b K, 0) := by
  rw [plHeldZ, if_pos (show plOkP ⟨s, b, m, plRv s b m.toNat (m.toNat - K)⟩ = true from plRv_right hf _)]
  simp only [plHeld_taken (plFit_iff.1 hf).1 hK]
theorem plHeldZ_done {s b m : Int} (hf : plFit s b m = true) {K : Nat} (hK : K ≤ m.toNat) (t : Int) : plHeldZ ⟨s, b, m, plRv s b m.toNat (m.toNat - K) ++ plGn s b K t K⟩ = ([], 0) := by
  rw [plHeldZ, if_pos (show plOkP ⟨s, b, m, plRv s b m.toNat (m.toNat - K) ++ plGn s b K t K⟩ = true from plGn_right hf hK t K (Nat.le_refl _))]
  simp only [plGn_done hf hK t]
theorem plGive_gn {s b m : Int} (hf : plFit s b m = true) {K i : Nat} (hK : K ≤ m.toNat) (hi : i < K) (t : Int) :
    plGive ⟨s, b, m, plRv s b m.toNat (m.toNat - K) ++ plGn s b K t i⟩ (b + (plIdx K t i : Int) * s) = (⟨s, b, m, plRv s b m.toNat (m.toNat - K) ++ plGn s b K t (i + 1)⟩, 0) := by
  rw [plGive_new (plGn_right hf hK t i (by omega)) (plHas_iff.2 (plBl_mem.2 ⟨_, Nat.lt_of_lt_of_le (plIdx_lt (by omega) t i) hK, rfl⟩)) (plHas_not.2 (plGn_new (plFit_iff.1 hf).1 hK hi t)), plGn_succ, List.append_assoc]
theorem plGive_gn2 {s b m : Int} (hf : plFit s b m = true) {K i : Nat} (hK : K ≤ m.toNat) (hi : i < K) (t : Int) :
    plGive ⟨s, b, m, plRv s b m.toNat (m.toNat - K) ++ plGn s b K t (i + 1)⟩ (b + (plIdx K t i : Int) * s) = (pl0, 5) := by
  have h := plGn_right hf hK t (i + 1) (by omega)
  rw [plGn_succ, ← List.append_assoc] at h ⊢
  exact plGive_twice h
theorem plTake_rv {s b m : Int} (hf : plFit s b m = true) {i j : Nat} (h : i + (j + 1) = m.toNat) : plTake ⟨s, b, m, plRv s b m.toNat (j + 1)⟩ = (⟨s, b, m, plRv s b m.toNat j⟩, b + (i : Int) * s, 0) := by
  rw [plTake_some (plRv_right hf _) (plRv_len (by omega)), plRv_take, plRv_last (by omega), show m.toNat - 1 - j = i by omega]
theorem slF_grown {F : Nat} {w w' : World} {row : Option Nat} {a : Option Addr} {n : Nat} {zs : List Int} (hg : w.grownBy w' row) (hr : ∀ r, row = some r → r < F) (h : SlF F w a n zs) : SlF F w' a n zs :=
  ⟨h.1, h.2.imp id fun ⟨b, o, e, hq, r⟩ => ⟨b, o, e, hq, fun i hi => by
    rw [(Gen.grown_cell hg (cell_lt (r i hi)) (fun e => Nat.lt_irrefl _ (Nat.lt_of_lt_of_le (hr b e) hq)) _).1]; exact r i hi⟩⟩
end Go.Proofs.Ytnkhgofpdgnemaa
