/- Plain mathematics of pools of blocks; nothing of the program is imported. -/
namespace Go.Proofs.Ytnkhgofpdgnemaa

/-- the first places of a pool's blocks -/
def plBl (s b : Int) (m : Nat) : List Int := (List.range m).map fun (k : Nat) => b + (k : Int) * s
def plFit (s b m : Int) : Bool := decide (1 ≤ s ∧ s ≤ 8 ∧ 0 ≤ m ∧ m ≤ 16 ∧ 1 ≤ b ∧ b ≤ 160 ∧ b + s * m ≤ 160)
def plHas (fs : List Int) (x : Int) : Bool := fs.contains x
def plHeld (s b : Int) (m : Nat) (fs : List Int) : List Int := (plBl s b m).filter fun x => !plHas fs x
def plRight (s b m : Int) (fs : List Int) : Bool := plFit s b m && decide ((plHeld s b m.toNat fs).length + fs.length = m.toNat)
def plOk (s b : Int) (m : Nat) (fs : List Int) (i : Nat) : Bool := plHas (plBl s b m) (fs.getD i 0) && !plHas (fs.take i) (fs.getD i 0)
def plRef (s b m : Int) (fs : List Int) : Bool := plFit s b m && (List.range fs.length).all (plOk s b m.toNat fs)

theorem plFit_iff {s b m : Int} : plFit s b m = true ↔ 1 ≤ s ∧ s ≤ 8 ∧ 0 ≤ m ∧ m ≤ 16 ∧ 1 ≤ b ∧ b ≤ 160 ∧ b + s * m ≤ 160 := by simp [plFit]
theorem plHas_iff {fs : List Int} {x : Int} : plHas fs x = true ↔ x ∈ fs := by simp [plHas]
theorem plHas_not {fs : List Int} {x : Int} : plHas fs x = false ↔ x ∉ fs := by
  rw [← plHas_iff]; cases plHas fs x <;> simp
theorem plBl_length (s b : Int) (m : Nat) : (plBl s b m).length = m := by simp [plBl]
theorem plBl_mem {s b x : Int} {m : Nat} : x ∈ plBl s b m ↔ ∃ k : Nat, k < m ∧ b + (k : Int) * s = x := by simp [plBl]
theorem plBl_get {s b : Int} {m k : Nat} (h : k < m) : (plBl s b m).getD k 0 = b + (k : Int) * s := by simp [plBl, h]
theorem plBl_succ (s b : Int) (m : Nat) : plBl s b (m + 1) = plBl s b m ++ [b + (m : Int) * s] := by simp [plBl, List.range_succ]
theorem plBl_take {s b : Int} {m k : Nat} (h : k ≤ m) : (plBl s b m).take k = plBl s b k := by
  simp only [plBl, ← List.map_take, List.take_range, Nat.min_eq_left h]
theorem pl_mul_lt {s : Int} (hs : 1 ≤ s) {i j : Nat} (h : i < j) : (i : Int) * s + s ≤ (j : Int) * s := by
  have h1 : ((i : Int) + 1) * s ≤ (j : Int) * s := Int.mul_le_mul_of_nonneg_right (by omega) (by omega)
  rw [Int.add_mul, Int.one_mul] at h1
  exact h1
theorem pl_inj {s b : Int} (hs : 1 ≤ s) {i j : Nat} (h : b + (i : Int) * s = b + (j : Int) * s) : i = j := by
  rcases Nat.lt_trichotomy i j with h1 | h1 | h1
  · have := pl_mul_lt hs h1; omega
  · exact h1
  · have := pl_mul_lt hs h1; omega
/-- a block's place lies in the pool, and nothing goes round -/
theorem pl_place {s b m : Int} (h : plFit s b m = true) {k : Nat} (hk : (k : Int) < m) : 0 ≤ (k : Int) * s ∧ (k : Int) * s ≤ 160 ∧ 1 ≤ b + (k : Int) * s ∧ b + (k : Int) * s + s ≤ 160 ∧ b + (k : Int) * s + s ≤ b + s * m := by
  obtain ⟨h1, h2, h3, h4, h5, h6, h7⟩ := plFit_iff.1 h
  have e := pl_mul_lt h1 (show k < m.toNat by omega)
  rw [Int.toNat_of_nonneg h3, Int.mul_comm m s] at e
  have e0 : 0 ≤ (k : Int) * s := Int.mul_nonneg (by omega) (by omega)
  omega
theorem pl_area {s m : Int} (h1 : 1 ≤ s) (h2 : s ≤ 8) (h3 : 0 ≤ m) (h4 : m ≤ 16) : 0 ≤ s * m ∧ s * m ≤ 128 := by
  have e0 : 0 ≤ s * m := Int.mul_nonneg (by omega) h3
  have e1 : s * m ≤ 8 * m := Int.mul_le_mul_of_nonneg_right h2 h3
  omega

/-! ### a list of blocks has no place twice -/
theorem plBl_nodup {s b : Int} (hs : 1 ≤ s) : ∀ (m : Nat), (plBl s b m).Nodup
  | 0 => by simp [plBl]
  | m + 1 => by
    rw [plBl_succ, List.nodup_append]
    refine ⟨plBl_nodup hs m, by simp, ?_⟩
    intro x hx y hy e
    subst e
    obtain ⟨k, hk, rfl⟩ := plBl_mem.1 hx
    have := pl_inj hs (by simpa using hy : b + (k : Int) * s = b + (m : Int) * s)
    omega
theorem pl_sub_le : ∀ {l l' : List Int}, l.Nodup → (∀ x ∈ l, x ∈ l') → l.length ≤ l'.length
  | [], _, _, _ => Nat.zero_le _
  | x :: t, l', hn, hs => by
    obtain ⟨h1, h2⟩ := List.nodup_cons.1 hn
    have hx := hs x (by simp)
    have h3 : ∀ y ∈ t, y ∈ l'.erase x := fun y hy => (List.mem_erase_of_ne (fun e => h1 (by rw [← e]; exact hy))).2 (hs y (by simp [hy]))
    have h4 := pl_sub_le h2 h3
    rw [List.length_erase_of_mem hx] at h4
    have := List.length_pos_of_mem hx
    simp only [List.length_cons]
    omega
theorem pl_filter_add (p : Int → Bool) : ∀ (l : List Int), (l.filter p).length + (l.filter fun x => !p x).length = l.length
  | [] => rfl
  | x :: t => by
    have := pl_filter_add p t
    cases h : p x <;> simp [h] <;> omega
/-- the blocks that are in fs -/
def plIn (s b : Int) (m : Nat) (fs : List Int) : List Int := (plBl s b m).filter fun x => plHas fs x
theorem plIn_add (s b : Int) (m : Nat) (fs : List Int) : (plIn s b m fs).length + (plHeld s b m fs).length = m := by
  have := pl_filter_add (fun x => plHas fs x) (plBl s b m)
  rw [plBl_length] at this
  exact this
theorem plIn_mem {s b x : Int} {m : Nat} {fs : List Int} : x ∈ plIn s b m fs ↔ x ∈ plBl s b m ∧ x ∈ fs := by
  simp only [plIn, List.mem_filter, plHas_iff]
theorem plIn_le {s b : Int} (hs : 1 ≤ s) (m : Nat) (fs : List Int) : (plIn s b m fs).length ≤ fs.length :=
  pl_sub_le ((plBl_nodup hs m).filter _) (fun _ hx => (plIn_mem.1 hx).2)
/-- Free is of the blocks, and has none of them twice -/
def PlGood (s b : Int) (m : Nat) (fs : List Int) : Prop := fs.Nodup ∧ ∀ x ∈ fs, x ∈ plBl s b m
theorem plRef_iff {s b m : Int} {fs : List Int} : plRef s b m fs = true ↔ plFit s b m = true ∧ PlGood s b m.toNat fs := by
  simp only [plRef, Bool.and_eq_true, List.all_eq_true, List.mem_range, plOk, plHas_iff, Bool.not_eq_true', plHas_not]
  refine and_congr_right fun _ => ⟨fun h => ⟨?_, ?_⟩, fun ⟨h1, h2⟩ i hi => ?_⟩
  · rw [List.nodup_iff_pairwise_ne, List.pairwise_iff_getElem]
    intro i j hi hj hij e
    refine (h j hj).2 ?_
    rw [List.mem_iff_getElem]
    refine ⟨i, by rw [List.length_take]; omega, ?_⟩
    simp [hj, e]
  · intro x hx
    obtain ⟨i, hi, rfl⟩ := List.mem_iff_getElem.1 hx
    have := (h i hi).1
    simpa [hi] using this
  · have e : fs.getD i 0 = fs[i] := by simp [hi]
    rw [e]
    refine ⟨h2 _ (List.getElem_mem hi), fun hm => ?_⟩
    obtain ⟨j, hj, e2⟩ := List.mem_iff_getElem.1 hm
    rw [List.length_take] at hj
    rw [List.nodup_iff_pairwise_ne, List.pairwise_iff_getElem] at h1
    refine h1 j i (by omega) hi (by omega) ?_
    rw [← e2]; simp
theorem pl_good_len {s b : Int} (hs : 1 ≤ s) {m : Nat} {fs : List Int} : (plIn s b m fs).length = fs.length ↔ PlGood s b m fs := by
  constructor
  · intro h
    have key : ∀ (l r : List Int) (x : Int), fs = l ++ x :: r → x ∈ plBl s b m ∧ x ∉ l ++ r := by
      intro l r x e
      apply Classical.byContradiction
      intro hn
      have hsub : ∀ y ∈ plIn s b m fs, y ∈ l ++ r := by
        intro y hy
        obtain ⟨h1, h2⟩ := plIn_mem.1 hy
        rw [e, List.mem_append, List.mem_cons] at h2
        rw [List.mem_append]
        rcases h2 with h2 | rfl | h2
        · exact .inl h2
        · apply Classical.byContradiction
          intro h3
          exact hn ⟨h1, by rw [List.mem_append]; exact h3⟩
        · exact .inr h2
      have := pl_sub_le ((plBl_nodup hs m).filter _) hsub
      have e2 : fs.length = (l ++ r).length + 1 := by rw [e]; simp; omega
      unfold plIn at h
      omega
    refine ⟨?_, ?_⟩
    · rw [List.nodup_iff_pairwise_ne, List.pairwise_iff_getElem]
      intro i j hi hj hij e
      have e1 : fs = fs.take i ++ fs[i] :: fs.drop (i + 1) := by rw [← List.drop_eq_getElem_cons hi, List.take_append_drop]
      refine (key _ _ _ e1).2 ?_
      rw [List.mem_append]
      right
      rw [List.mem_iff_getElem]
      refine ⟨j - (i + 1), by rw [List.length_drop]; omega, ?_⟩
      rw [List.getElem_drop, e]
      congr 1
      omega
    · intro x hx
      obtain ⟨l, r, e⟩ := List.append_of_mem hx
      exact (key l r x e).1
  · rintro ⟨h1, h2⟩
    have := plIn_le (b := b) hs m fs
    have h3 := pl_sub_le h1 (l' := plIn s b m fs) (fun x hx => plIn_mem.2 ⟨h2 x hx, hx⟩)
    omega
theorem plRight_iff {s b m : Int} {fs : List Int} : plRight s b m fs = true ↔ plFit s b m = true ∧ PlGood s b m.toNat fs := by
  simp only [plRight, Bool.and_eq_true, decide_eq_true_eq]
  refine and_congr_right fun hf => ?_
  rw [← pl_good_len (plFit_iff.1 hf).1]
  have := plIn_add s b m.toNat fs
  omega
theorem plRight_ref (s b m : Int) (fs : List Int) : plRight s b m fs = plRef s b m fs := by
  rw [Bool.eq_iff_iff, plRight_iff, plRef_iff]
theorem plGood_length {s b : Int} {m : Nat} {fs : List Int} (h : PlGood s b m fs) : fs.length ≤ m := by
  have := pl_sub_le h.1 h.2
  rwa [plBl_length] at this
theorem plGood_take {s b : Int} {m : Nat} {fs : List Int} (k : Nat) (h : PlGood s b m fs) : PlGood s b m (fs.take k) :=
  ⟨h.1.sublist (List.take_sublist k fs), fun x hx => h.2 x (List.mem_of_mem_take hx)⟩
theorem plGood_snoc {s b x : Int} {m : Nat} {fs : List Int} (h : PlGood s b m fs) (hx : x ∈ plBl s b m) (hn : x ∉ fs) : PlGood s b m (fs ++ [x]) := by
  refine ⟨?_, fun y hy => ?_⟩
  · rw [List.nodup_append]
    refine ⟨h.1, by simp, fun y hy z hz e => ?_⟩
    simp at hz
    subst e hz
    exact hn hy
  · rw [List.mem_append] at hy
    rcases hy with hy | hy
    · exact h.2 y hy
    · simp at hy; subst hy; exact hx
theorem plGood_rev {s b : Int} (hs : 1 ≤ s) (m : Nat) : PlGood s b m (plBl s b m).reverse :=
  ⟨List.pairwise_reverse.2 ((plBl_nodup hs m).imp fun h => h.symm), fun _ hx => List.mem_reverse.1 hx⟩
end Go.Proofs.Ytnkhgofpdgnemaa
