/- Contracts of package pool and of its reference: what may be a pool's sizes; is a place among some, and is it a block's first. -/
import Derived.Test.YtnkhgofpdgnemaaRefB
import Derived.Test.YtnkhgofpdgnemaaBufA
import Derived.Test.YtnkhgofpdgnemaaPlM
namespace Go.Proofs.Ytnkhgofpdgnemaa
open Go.ChangeShapes Go.WideShapes Go.ChangeAt Go.RowKit

theorem plFit_ways (s b m x : Int) (hx : s * m = x) :
    (plFit s b m = false ∧ ¬ 1 ≤ s) ∨ (plFit s b m = false ∧ 1 ≤ s ∧ ¬ s ≤ 8) ∨ (plFit s b m = false ∧ 1 ≤ s ∧ s ≤ 8 ∧ ¬ 0 ≤ m) ∨ (plFit s b m = false ∧ 1 ≤ s ∧ s ≤ 8 ∧ 0 ≤ m ∧ ¬ m ≤ 16) ∨
    (plFit s b m = false ∧ 1 ≤ s ∧ s ≤ 8 ∧ 0 ≤ m ∧ m ≤ 16 ∧ ¬ 1 ≤ b) ∨ (plFit s b m = false ∧ 1 ≤ s ∧ s ≤ 8 ∧ 0 ≤ m ∧ m ≤ 16 ∧ 1 ≤ b ∧ ¬ b ≤ 160) ∨
    (plFit s b m = decide (b + x ≤ 160) ∧ 1 ≤ s ∧ s ≤ 8 ∧ 0 ≤ m ∧ m ≤ 16 ∧ 1 ≤ b ∧ b ≤ 160 ∧ wrap64 (s * m) = x ∧ 0 ≤ x ∧ x ≤ 128) := by
  subst hx
  by_cases h1 : 1 ≤ s
  · by_cases h2 : s ≤ 8
    · by_cases h3 : 0 ≤ m
      · by_cases h4 : m ≤ 16
        · by_cases h5 : 1 ≤ b
          · by_cases h6 : b ≤ 160
            · have ha := pl_area h1 h2 h3 h4
              refine .inr (.inr (.inr (.inr (.inr (.inr ⟨?_, h1, h2, h3, h4, h5, h6, IntWalk.wrap64_in _ (by omega), ha.1, ha.2⟩)))))
              simp [plFit, h1, h2, h3, h4, h5, h6]
            · exact .inr (.inr (.inr (.inr (.inr (.inl ⟨by simp [plFit, h6], h1, h2, h3, h4, h5, h6⟩)))))
          · exact .inr (.inr (.inr (.inr (.inl ⟨by simp [plFit, h5], h1, h2, h3, h4, h5⟩))))
        · exact .inr (.inr (.inr (.inl ⟨by simp [plFit, h4], h1, h2, h3, h4⟩)))
      · exact .inr (.inr (.inl ⟨by simp [plFit, h3], h1, h2, h3⟩))
    · exact .inr (.inl ⟨by simp [plFit, h2], h1, h2⟩)
  · exact .inl ⟨by simp [plFit, h1], h1⟩

set_option maxHeartbeats 4000000 in
theorem plSizes_any (s b m : Int) (w : World) : Calls Try.prog 12 #[.int .i64 s, .int .i64 b, .int .i64 m] w (PureB (plFit s b m) w) := by
  obtain ⟨x, hx⟩ : ∃ x, s * m = x := ⟨_, rfl⟩
  rcases plFit_ways s b m x hx with ⟨H, h1⟩ | ⟨H, h1, h2⟩ | ⟨H, h1, h2, h3⟩ | ⟨H, h1, h2, h3, h4⟩ | ⟨H, h1, h2, h3, h4, h5⟩ | ⟨H, h1, h2, h3, h4, h5, h6⟩ | ⟨H, h1, h2, h3, h4, h5, h6, h7, h8, h9⟩
  all_goals
    have HF := Lib.hid H
    clear H hx
    go_enter Try.func12, Try.ntmps12
    go_wp2
    go_ret
    exact pureB_mk HF.out

set_option maxHeartbeats 4000000 in
theorem plFits_any (s b m : Int) (a : Option Addr) (n c : Nat) (w : World) : Calls Try.prog 26 #[.agg #[.int .i64 s, .int .i64 b, .int .i64 m, .slice a n c]] w (BoolPost (plFit s b m) w) := by
  obtain ⟨x, hx⟩ : ∃ x, s * m = x := ⟨_, rfl⟩
  rcases plFit_ways s b m x hx with ⟨H, h1⟩ | ⟨H, h1, h2⟩ | ⟨H, h1, h2, h3⟩ | ⟨H, h1, h2, h3, h4⟩ | ⟨H, h1, h2, h3, h4, h5⟩ | ⟨H, h1, h2, h3, h4, h5, h6⟩ | ⟨H, h1, h2, h3, h4, h5, h6, h7, h8, h9⟩
  all_goals
    have HF := Lib.hid H
    clear H hx
    go_enter Try.func26, Try.ntmps26
    go_wp2
    go_ret
    exact boolPost_mk HF.out (by go_grown)

/-- not yet met -/
def PlMiss (fs : List Int) (x : Int) (k : Nat) : Prop := ∀ i, i < k → fs.getD i 0 ≠ x
theorem plMiss_succ {fs : List Int} {x : Int} {k : Nat} (h : PlMiss fs x k) (h1 : fs.getD k 0 ≠ x) : PlMiss fs x (k + 1) := by
  intro i hi
  by_cases e : i = k
  · subst e; exact h1
  · exact h i (by omega)
theorem plMiss_all {fs : List Int} {x : Int} (h : PlMiss fs x fs.length) : plHas fs x = false := by
  rw [plHas_not]
  intro hm
  obtain ⟨i, hi, rfl⟩ := List.mem_iff_getElem.1 hm
  exact h i hi (by simp [hi])
theorem plHas_at {fs : List Int} {x : Int} {k : Nat} (hk : k < fs.length) (h : fs.getD k 0 = x) : plHas fs x = true := by
  rw [plHas_iff, ← h]
  simp [hk]

set_option maxHeartbeats 2000000 in
theorem plHas_any (a : Option Addr) (n c : Nat) (fs : List Int) (x : Int) (w : World) (S : Sl w a n fs) (hn : n ≤ 9223372036854775807) :
    Calls Try.prog 22 #[.slice a n c, .int .i64 x] w (PureB (plHas fs x) w) := by
  have Hn := Lib.hid S.1
  go_enter Try.func22, Try.ntmps22
  go_wp2
  go_loopw [9] (fun s wr => ∃ k : Nat, k ≤ n ∧ s = .int .i64 k ∧ wr = w ∧ Hid (PlMiss fs x k)) (fun s _ => n - (intOf s).toNat)
  case atStart => exact ⟨0, by omega, rfl, rfl, by intro j hj; omega⟩
  case round =>
    obtain ⟨k, hk, rfl, rfl, hr⟩ := hrel
    by_cases hlt : k < n
    · obtain ⟨b, o, rfl, R⟩ := S.2.resolve_left (by omega)
      have g := R k (by rw [Hn.out]; exact hlt)
      generalize hy : fs.getD k 0 = y at g
      have HY := Lib.hid hy
      have i1 : (0 : Int) ≤ k := by omega
      have i2 : (k : Int) < n := by omega
      clear hy
      by_cases e : y = x
      · have HF := Lib.hid (plHas_at (fs := fs) (k := k) (by rw [Hn.out]; exact hlt) (HY.out.trans e))
        have q : (y == x) = true := by simpa using e
        clear e
        go_wp2
        go_ret
        exact pureB_mk HF.out
      · have HS := Lib.hid (plMiss_succ hr.out (by rw [HY.out]; exact e))
        have q : (y == x) = false := by simpa using e
        clear e
        go_wp2
        go_roundw
        case rel => exact ⟨k + 1, by omega, by go_num, trivial, HS.out⟩
        case measure => simp [intOf]; omega
    · obtain rfl : k = n := by omega
      have HF := Lib.hid (plMiss_all (fs := fs) (x := x) (by rw [Hn.out]; exact hr.out))
      go_wp2
      go_ret
      exact pureB_mk HF.out

def PlIdx (t : Bool) (w : World) (e : Ending) (w' : World) : Prop := ∃ i : Int, e = .returned (.int .i64 i) ∧ decide (0 ≤ i) = t ∧ w' = w
theorem plIdx_mk {t : Bool} {w : World} {i : Int} (h : decide (0 ≤ i) = t) : PlIdx t w (.returned (.int .i64 i)) w := ⟨i, rfl, h, rfl⟩
set_option maxHeartbeats 2000000 in
theorem plIndex_any (a : Option Addr) (n c : Nat) (fs : List Int) (x : Int) (w : World) (S : Sl w a n fs) (hn : n ≤ 9223372036854775807) :
    Calls Try.prog 35 #[.slice a n c, .int .i64 x] w (PlIdx (plHas fs x) w) := by
  have Hn := Lib.hid S.1
  go_enter Try.func35, Try.ntmps35
  go_wp2
  go_loopw [8] (fun s wr => ∃ k : Nat, k ≤ n ∧ s = .int .i64 k ∧ wr = w ∧ Hid (PlMiss fs x k)) (fun s _ => n - (intOf s).toNat)
  case atStart => exact ⟨0, by omega, rfl, rfl, by intro j hj; omega⟩
  case round =>
    obtain ⟨k, hk, rfl, rfl, hr⟩ := hrel
    by_cases hlt : k < n
    · obtain ⟨b, o, rfl, R⟩ := S.2.resolve_left (by omega)
      have g := R k (by rw [Hn.out]; exact hlt)
      generalize hy : fs.getD k 0 = y at g
      have HY := Lib.hid hy
      have i1 : (0 : Int) ≤ k := by omega
      have i2 : (k : Int) < n := by omega
      clear hy
      by_cases e : y = x
      · have HF := Lib.hid (plHas_at (fs := fs) (k := k) (by rw [Hn.out]; exact hlt) (HY.out.trans e))
        have q : (x == y) = true := by simpa using e.symm
        clear e
        go_wp2
        go_ret
        exact plIdx_mk (by rw [HF.out]; simp)
      · have HS := Lib.hid (plMiss_succ hr.out (by rw [HY.out]; exact e))
        have q : (x == y) = false := by simpa using fun h => e h.symm
        clear e
        go_wp2
        go_roundw
        case rel => exact ⟨k + 1, by omega, by go_num, trivial, HS.out⟩
        case measure => simp [intOf]; omega
    · obtain rfl : k = n := by omega
      have HF := Lib.hid (plMiss_all (fs := fs) (x := x) (by rw [Hn.out]; exact hr.out))
      go_wp2
      go_ret
      exact plIdx_mk (by rw [HF.out]; rfl)

set_option maxHeartbeats 2000000 in
theorem plContains_any (a : Option Addr) (n c : Nat) (fs : List Int) (x : Int) (w : World) (S : Sl w a n fs) (hn : n ≤ 9223372036854775807) :
    Calls Try.prog 31 #[.slice a n c, .int .i64 x] w (PureB (plHas fs x) w) := by
  go_enter Try.func31, Try.ntmps31
  go_wp2_with fail
  refine (plIndex_any a n c fs x _ S hn).mono ?_
  rintro e w1 ⟨i, rfl, ht, rfl⟩
  have HT := Lib.hid ht
  clear ht
  go_wp2
  go_ret
  exact pureB_mk HT.out.symm

set_option maxHeartbeats 4000000 in
/-- a word's walk by the pool's places -/
theorem plFirst_any (s b m : Int) (a : Option Addr) (n c : Nat) (x : Int) (w : World) (hf : plFit s b m = true) :
    Calls Try.prog 28 #[.agg #[.int .i64 s, .int .i64 b, .int .i64 m, .slice a n c], .int .i64 x] w (BoolPost (plHas (plBl s b m.toNat) x) w) := by
  have Hf := Lib.hid hf
  obtain ⟨h1, -, h3, h4, -, -, -⟩ := plFit_iff.1 hf
  obtain ⟨N, hN⟩ : ∃ N : Nat, m = N := ⟨m.toNat, by omega⟩
  subst hN
  rw [show ((N : Int)).toNat = N by omega]
  have hN16 : N ≤ 16 := by omega
  clear hf h3 h4
  go_enter Try.func28, Try.ntmps28
  go_wp2
  obtain ⟨wo, hwo⟩ : ∃ wo, w.alloc (.cells #[.int .i64 s, .int .i64 b, .int .i64 N, .slice a n c] 24) = wo := ⟨_, rfl⟩
  have c0 : wo.cell? ⟨w.heap.size, 0, none⟩ = some (.int .i64 s) := by rw [← hwo]; exact cell_new _ _ _ rfl rfl
  have c1 : wo.cell? ⟨w.heap.size, 1, none⟩ = some (.int .i64 b) := by rw [← hwo]; exact cell_new _ _ _ rfl rfl
  have c2 : wo.cell? ⟨w.heap.size, 2, none⟩ = some (.int .i64 N) := by rw [← hwo]; exact cell_new _ _ _ rfl rfl
  have HB := Lib.hid (show Below w.heap.size w wo by rw [← hwo]; exact (Below.refl _ _).alloc (Nat.le_refl _) _)
  rw [hwo]
  clear hwo
  go_loopw [5] (fun i wr => ∃ k : Nat, k ≤ N ∧ i = .int .i64 k ∧ wr = wo ∧ Hid (PlMiss (plBl s b N) x k)) (fun i _ => N - (intOf i).toNat)
  case atStart => exact ⟨0, by omega, rfl, rfl, by intro j hj; omega⟩
  case round =>
    obtain ⟨k, hk, rfl, rfl, hr⟩ := hrel
    by_cases hlt : k < N
    · have hp := pl_place Hf.out (show (k : Int) < N by omega)
      have HG := Lib.hid (plBl_get (s := s) (b := b) hlt)
      obtain ⟨y, hy⟩ : ∃ y, (k : Int) * s = y := ⟨_, rfl⟩
      rw [hy] at hp HG
      obtain ⟨p1, p2, p3, p4, -⟩ := hp
      have hw : wrap64 ((k : Int) * s) = y := by rw [hy]; exact IntWalk.wrap64_in _ (by omega)
      have hw2 : wrap64 (b + y) = b + y := IntWalk.wrap64_in _ (by omega)
      have i2 : (k : Int) < N := by omega
      clear hy
      by_cases e : b + y = x
      · have HF := Lib.hid (plHas_at (fs := plBl s b N) (k := k) (by rw [plBl_length]; exact hlt) (HG.out.trans e))
        have q : (b + y == x) = true := by simpa using e
        clear e
        go_wp2
        go_ret
        exact boolPost_mk HF.out HB.out
      · have HS := Lib.hid (plMiss_succ hr.out (by rw [HG.out]; exact e))
        have q : (b + y == x) = false := by simpa using e
        clear e
        go_wp2
        go_roundw
        case rel => exact ⟨k + 1, by omega, by go_num, trivial, HS.out⟩
        case measure => simp [intOf]; omega
    · obtain rfl : k = N := by omega
      have HF := Lib.hid (plMiss_all (fs := plBl s b k) (x := x) (by rw [plBl_length]; exact hr.out))
      go_wp2
      go_ret
      exact boolPost_mk HF.out HB.out
end Go.Proofs.Ytnkhgofpdgnemaa
