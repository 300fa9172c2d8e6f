/- The walk of MemoryMakes. -/
import Derived.Test.YtmkpjmcekoenbaaLawA
import Derived.Test.YtmkpjmcekoenbaaRefE
import Derived.Deep.RegionHeld3
import Derived.Deep.DeepCutAuto
namespace Go.Proofs.Ytmkpjmcekoenbaa
open Go.ChangeShapes Go.WideShapes Go.ChangeAt Go.RowKit

theorem eq_arr3 (x y z : Int) (w : World) : (Op.equalIn 10000 29 (.agg #[.int .i64 x, .int .i64 y, .int .i64 z]) (.agg #[.int .i64 x, .int .i64 y, .int .i64 z])).run Try.prog w = .ok true w := by
  show (Op.equalIn (9999 + 1) 29 _ _).run Try.prog w = .ok true w
  rw [Op.equalIn]
  have e : ∀ (a : Int) (w : World), (Op.equalIn 9999 3 (.int .i64 a) (.int .i64 a)).run Try.prog w = .ok true w := by
    intro a w
    rw [run_equalIn_int w 9998 3 .i64 .i64 a a Try.underlying3]; simp
  have ha : ∀ w, (isAgg 3).run Try.prog w = .ok false w := fun w => by kernel_rfl
  have hl : List.range' 0 3 = [0, 1, 2] := rfl
  simp [run_underlying Try.underlying29, go_sem, e, hl, ha, List.forIn_cons]

set_option maxHeartbeats 4000000 in
theorem Makes_walk (k : Int) (a a' : Option Addr) (n c n' c' : Nat) (ws ts : List Int) (w : World) (S1 : Sl w a (min n 170) ws) (S2 : Sl w a' (min n' 170) ts) (h1 : n ≤ c) (h2 : n' ≤ c') (h3 : c ≤ 9223372036854775807) (h4 : c' ≤ 9223372036854775807) :
    Calls Try.prog 3 #[.int .i64 k, .slice a n c, .slice a' n' c'] w fun e w' => e = .returned (.bool true) ∧ Below w.heap.size w w' := by
  go_enter Try.func3, Try.ntmps3
  go_wp2_with fail
  refine (mem_any a a' n c n' c' w h1 h2 h3 h4).mono ?_
  rintro e w1 ⟨rfl, hb1⟩
  have hm' : min n' 170 ≤ 1000 := by omega
  generalize min n 170 = m at S1 ⊢
  generalize min n' 170 = m' at S2 hm' ⊢
  clear h1 h2 h3 h4
  go_wp2_with fail
  have T1 := slA (Obj.cells #[.slice a m c, .slice a' m' c'] 24) (slB hb1 S1)
  have T2 := slA (Obj.cells #[.slice a m c, .slice a' m' c'] 24) (slB hb1 S2)
  have b1 : Below w.heap.size w (w1.alloc (Obj.cells #[.slice a m c, .slice a' m' c'] 24)) := hb1.alloc hb1.size _
  have k0 : (w1.alloc (Obj.cells #[.slice a m c, .slice a' m' c'] 24)).cell? ⟨w1.heap.size, 0, none⟩ = some (.slice a m c) := by simp
  have k1 : (w1.alloc (Obj.cells #[.slice a m c, .slice a' m' c'] 24)).cell? ⟨w1.heap.size, 1, none⟩ = some (.slice a' m' c') := by simp
  refine (New_any k _).mono ?_
  rintro e w2 ⟨p, l, d, p', l', d', rfl, u1, u2, hb2⟩
  have b2 : Below w.heap.size w w2 := below_from b1 hb2
  have b3 : Below w.heap.size w (w2.alloc (Obj.cells #[.slice p l d, .slice p' l' d'] 24)) := b2.alloc b2.size _
  have U1 := slA (Obj.cells #[.slice p l d, .slice p' l' d'] 24) u1.sl
  have U2 := slA (Obj.cells #[.slice p l d, .slice p' l' d'] 24) u2.sl
  replace T1 := slA (Obj.cells #[.slice p l d, .slice p' l' d'] 24) (slB hb2 T1)
  replace T2 := slA (Obj.cells #[.slice p l d, .slice p' l' d'] 24) (slB hb2 T2)
  replace k0 := cellA (Obj.cells #[.slice p l d, .slice p' l' d'] 24) (cellB hb2 k0)
  replace k1 := cellA (Obj.cells #[.slice p l d, .slice p' l' d'] 24) (cellB hb2 k1)
  have n0 : (w2.alloc (Obj.cells #[.slice p l d, .slice p' l' d'] 24)).cell? ⟨w2.heap.size, 0, none⟩ = some (.slice p l d) := by simp
  have n1 : (w2.alloc (Obj.cells #[.slice p l d, .slice p' l' d'] 24)).cell? ⟨w2.heap.size, 1, none⟩ = some (.slice p' l' d') := by simp
  clear hb2 b1 b2 u1 u2
  go_wp2_with fail
  refine (Count_any a a' m c m' c' ws ts _ T1 T2).mono ?_
  rintro e w3 ⟨rfl, hb3⟩
  obtain ⟨y0, hy0⟩ : ∃ y, cntZ ws ts 0 = y := ⟨_, rfl⟩
  obtain ⟨y1, hy1⟩ : ∃ y, cntZ ws ts 1 = y := ⟨_, rfl⟩
  obtain ⟨y2, hy2⟩ : ∃ y, cntZ ws ts 2 = y := ⟨_, rfl⟩
  obtain ⟨ye, hye⟩ : ∃ y : Int, (if mayB ws ts = true then 0 else 1) = y := ⟨_, rfl⟩
  obtain ⟨xe, hxe⟩ : ∃ y : Int, newE k = y := ⟨_, rfl⟩
  rw [hy0, hy1, hy2, hye, hxe]
  have HY := Lib.hid (And.intro hy0 (And.intro hy1 (And.intro hy2 (And.intro hye hxe))))
  clear hy0 hy1 hy2 hye hxe
  have b4 : Below w.heap.size w w3 := below_from b3 hb3
  have b5 : Below w.heap.size w (w3.alloc (Obj.cells #[.int .i64 y0, .int .i64 y1, .int .i64 y2] 29)) := b4.alloc b4.size _
  replace U1 := slA (Obj.cells #[.int .i64 y0, .int .i64 y1, .int .i64 y2] 29) (slB hb3 U1)
  replace U2 := slA (Obj.cells #[.int .i64 y0, .int .i64 y1, .int .i64 y2] 29) (slB hb3 U2)
  replace T1 := slA (Obj.cells #[.int .i64 y0, .int .i64 y1, .int .i64 y2] 29) (slB hb3 T1)
  replace T2 := slA (Obj.cells #[.int .i64 y0, .int .i64 y1, .int .i64 y2] 29) (slB hb3 T2)
  replace k0 := cellA (Obj.cells #[.int .i64 y0, .int .i64 y1, .int .i64 y2] 29) (cellB hb3 k0)
  replace k1 := cellA (Obj.cells #[.int .i64 y0, .int .i64 y1, .int .i64 y2] 29) (cellB hb3 k1)
  replace n0 := cellA (Obj.cells #[.int .i64 y0, .int .i64 y1, .int .i64 y2] 29) (cellB hb3 n0)
  replace n1 := cellA (Obj.cells #[.int .i64 y0, .int .i64 y1, .int .i64 y2] 29) (cellB hb3 n1)
  have p0 : (w3.alloc (Obj.cells #[.int .i64 y0, .int .i64 y1, .int .i64 y2] 29)).cell? ⟨w3.heap.size, 0, none⟩ = some (.int .i64 y0) := by simp
  have p1 : (w3.alloc (Obj.cells #[.int .i64 y0, .int .i64 y1, .int .i64 y2] 29)).cell? ⟨w3.heap.size, 1, none⟩ = some (.int .i64 y1) := by simp
  have p2 : (w3.alloc (Obj.cells #[.int .i64 y0, .int .i64 y1, .int .i64 y2] 29)).cell? ⟨w3.heap.size, 2, none⟩ = some (.int .i64 y2) := by simp
  clear hb3 b3 b4
  go_wp2_with fail
  obtain ⟨W, hW⟩ : ∃ W, W = w3.alloc (Obj.cells #[.int .i64 y0, .int .i64 y1, .int .i64 y2] 29) := ⟨_, rfl⟩
  rw [← hW] at U1 U2 T1 T2 k0 k1 n0 n1 p0 p1 p2 b5 ⊢
  clear hW
  have hB0 : Below W.heap.size W W.drew := (Below.refl _ _).drew
  go_region_held3 (fun w' => w'.cell? ⟨w1.heap.size, 0, none⟩ = some (.slice a m c) ∧ w'.cell? ⟨w1.heap.size, 1, none⟩ = some (.slice a' m' c') ∧ Below W.heap.size W w')
    (first | exact ⟨k0, k1, (Below.refl _ _).drew⟩ | (exact ⟨cellB (by assumption) k0, cellB (by assumption) k1, by assumption⟩))
    ((first | (go_at_call 11; refine (Right_any a a' m c m' c' ws ts _ (slB (by assumption) T1) (slB (by assumption) T2)).mono ?_; rintro e wx ⟨rfl, hbx⟩; have hbx' := below_from (by assumption) hbx) | (go_at_call 12; refine (refRight_any a a' m c m' c' ws ts _ (slB (by assumption) T1) (slB (by assumption) T2)).mono ?_; rintro e wx ⟨rfl, hbx⟩; have hbx' := below_from (by assumption) hbx)  | (go_at_call 13; refine (alive_any _).mono ?_; rintro e wx ⟨rfl, hbx⟩; have hbx' := below_from (by assumption) hbx)))
  replace k0 := cellB hbx' k0
  replace k1 := cellB hbx' k1
  replace n0 := cellB hbx' n0
  replace n1 := cellB hbx' n1
  replace p0 := cellB hbx' p0
  replace p1 := cellB hbx' p1
  replace p2 := cellB hbx' p2
  replace T1 := slB hbx' T1
  replace T2 := slB hbx' T2
  replace U1 := slB hbx' U1
  replace U2 := slB hbx' U2
  have c1 : Below w.heap.size w wx := below_from b5 hbx'
  clear b5 hbx' hbx hB0
  by_cases hk : 1 ≤ k ∧ k ≤ 160
  · obtain ⟨hk1, hk2⟩ := hk
    obtain ⟨j, rfl⟩ := Int.eq_ofNat_of_zero_le (show 0 ≤ k by omega)
    have e0 : xe = 0 := by rw [← HY.out.2.2.2.2, newE, if_pos ⟨hk1, hk2⟩]
    have e1 : newL (j : Int) = List.replicate j 0 := by rw [newL, if_pos ⟨hk1, hk2⟩]; simp
    rw [e1] at U1 U2
    subst e0
    have hl1 : l = j := by rw [← U1.1]; simp
    have hl2 : l' = j := by rw [← U2.1]; simp
    subst hl1 hl2
    have hj : l' ≤ 160 := by omega
    have t1 : decide ((l' : Int) < 1) = false := by simp; omega
    have t2 : decide (160 < (l' : Int)) = false := by simp; omega
    clear e1
    go_wp2_with fail
    have hB0 : Below wx.heap.size wx wx.drew := (Below.refl _ _).drew
    go_region_held3 (fun w' => w'.cell? ⟨w2.heap.size, 0, none⟩ = some (.slice p l' d) ∧ w'.cell? ⟨w2.heap.size, 1, none⟩ = some (.slice p' l' d') ∧ Below wx.heap.size wx w')
      (first | exact ⟨n0, n1, (Below.refl _ _).drew⟩ | (exact ⟨cellB (by assumption) n0, cellB (by assumption) n1, by assumption⟩))
      ((first | (go_at_call 15; refine (refNew_any l' _ hj).mono ?_; rintro e wy ⟨q, f, q', f', rfl, V1, V2, hby⟩; have hby' := below_from (by assumption) hby) | (go_at_call 14; refine (Same_any p p' l' d l' d' q q' l' f l' f' _ _ _ _ _ (slB (by assumption) U1) (slB (by assumption) U2) V1.sl V2.sl (by omega) (by omega)).mono ?_; rintro e wz ⟨rfl, hbz⟩; rw [sameB_refl]; have hbz' := below_from (by assumption) hbz)))
    replace k0 := cellB hbz' k0
    replace k1 := cellB hbz' k1
    replace p0 := cellB hbz' p0
    replace p1 := cellB hbz' p1
    replace p2 := cellB hbz' p2
    replace T1 := slB hbz' T1
    replace T2 := slB hbz' T2
    have d1 : Below w.heap.size w wz := below_from c1 hbz'
    clear U1 U2 n0 n1 c1 hbz' hbz hby hby' V1 V2 hB0
    go_wp2_with fail
    refine (refRight_any a a' m c m' c' ws ts _ T1 T2).mono ?_
    rintro e w6 ⟨rfl, hb6⟩
    have b7 : Below w.heap.size w w6 := below_from d1 hb6
    replace k0 := cellB hb6 k0
    replace k1 := cellB hb6 k1
    replace p0 := cellB hb6 p0
    replace p1 := cellB hb6 p1
    replace p2 := cellB hb6 p2
    replace T2 := slB hb6 T2
    clear hb6 d1
    have heq := eq_arr3
    cases hm : mayB ws ts with
    | false =>
      have x0 : y0 = 0 := by rw [← HY.out.1, cntZ, if_neg (by rw [hm]; decide)]
      have x1 : y1 = 0 := by rw [← HY.out.2.1, cntZ, if_neg (by rw [hm]; decide)]
      have x2 : y2 = 0 := by rw [← HY.out.2.2.1, cntZ, if_neg (by rw [hm]; decide)]
      have x3 : ye = 1 := by rw [← HY.out.2.2.2.1, if_neg (by rw [hm]; decide)]
      subst x0 x1 x2 x3
      clear hm
      go_wp2_with fail
      go_ret
      exact ⟨rfl, b7⟩
    | true =>
      have x0 : y0 = (cnt ts 0 : Int) := by rw [← HY.out.1, cntZ, if_pos hm]
      have x1 : y1 = (cnt ts 1 : Int) := by rw [← HY.out.2.1, cntZ, if_pos hm]
      have x2 : y2 = (cnt ts 2 : Int) := by rw [← HY.out.2.2.1, cntZ, if_pos hm]
      have x3 : ye = 0 := by rw [← HY.out.2.2.2.1, if_pos hm]
      have X0 := Lib.hid x0
      have X1 := Lib.hid x1
      have X2 := Lib.hid x2
      subst x3
      clear hm x0 x1 x2
      have q0 : (y0 == y0) = true := by simp
      have q1 : (y1 == y1) = true := by simp
      have q2 : (y2 == y2) = true := by simp
      go_wp2_with fail
      have hB1 : Below w6.heap.size w6 w6.drew := (Below.refl _ _).drew
      go_region_held3 (fun w' => w'.cell? ⟨w1.heap.size, 0, none⟩ = some (.slice a m c) ∧ w'.cell? ⟨w1.heap.size, 1, none⟩ = some (.slice a' m' c') ∧ w'.cell? ⟨w3.heap.size, 0, none⟩ = some (.int .i64 y0) ∧ w'.cell? ⟨w3.heap.size, 1, none⟩ = some (.int .i64 y1) ∧ w'.cell? ⟨w3.heap.size, 2, none⟩ = some (.int .i64 y2) ∧ Below w6.heap.size w6 w')
        (first | exact ⟨k0, k1, p0, p1, p2, (Below.refl _ _).drew⟩ | (exact ⟨cellB (by assumption) k0, cellB (by assumption) k1, cellB (by assumption) p0, cellB (by assumption) p1, cellB (by assumption) p2, by assumption⟩))
        ((first | (go_at_call 16; refine (refCount_any a a' m c m' c' ts _ _ (slB (by assumption) T2) hm').mono ?_; rintro e wv ⟨rfl, hbv⟩; (first | rw [← X0.out] | rw [← X1.out] | rw [← X2.out]); have hbv' := below_from (by assumption) hbv) | fail))
      go_wp2_with fail
      go_ret
      exact ⟨rfl, below_from b7 hbv'⟩
  · have e0 : xe = 2 := by rw [← HY.out.2.2.2.2, newE, if_neg hk]
    have e1 : newL k = [] := by rw [newL, if_neg hk]
    rw [e1] at U1 U2
    subst e0
    have hl1 : 0 = l := U1.1
    have hl2 : 0 = l' := U2.1
    subst hl1 hl2
    have hk' : k < 1 ∨ (1 ≤ k ∧ 160 < k) := by omega
    clear e1 hk
    rcases hk' with h5 | ⟨h5, h6⟩
    all_goals
      go_wp2_with fail
      refine (Same_any p p' 0 d 0 d' none none 0 0 0 0 [] [] [] [] _ U1 U2 (sl_nil _) (sl_nil _) (by omega) (by omega)).mono ?_
      rintro e wz ⟨rfl, hbz'⟩
      rw [sameB_refl]
      replace k0 := cellB hbz' k0
      replace k1 := cellB hbz' k1
      replace p0 := cellB hbz' p0
      replace p1 := cellB hbz' p1
      replace p2 := cellB hbz' p2
      replace T1 := slB hbz' T1
      replace T2 := slB hbz' T2
      have d1 : Below w.heap.size w wz := below_from c1 hbz'
      clear U1 U2 n0 n1 c1 hbz'
      go_wp2_with fail
      refine (refRight_any a a' m c m' c' ws ts _ T1 T2).mono ?_
      rintro e w6 ⟨rfl, hb6⟩
      have b7 : Below w.heap.size w w6 := below_from d1 hb6
      replace k0 := cellB hb6 k0
      replace k1 := cellB hb6 k1
      replace p0 := cellB hb6 p0
      replace p1 := cellB hb6 p1
      replace p2 := cellB hb6 p2
      replace T2 := slB hb6 T2
      clear hb6 d1
      have heq := eq_arr3
      cases hm : mayB ws ts with
      | false =>
        have x0 : y0 = 0 := by rw [← HY.out.1, cntZ, if_neg (by rw [hm]; decide)]
        have x1 : y1 = 0 := by rw [← HY.out.2.1, cntZ, if_neg (by rw [hm]; decide)]
        have x2 : y2 = 0 := by rw [← HY.out.2.2.1, cntZ, if_neg (by rw [hm]; decide)]
        have x3 : ye = 1 := by rw [← HY.out.2.2.2.1, if_neg (by rw [hm]; decide)]
        subst x0 x1 x2 x3
        clear hm
        go_wp2_with fail
        go_ret
        exact ⟨rfl, b7⟩
      | true =>
        have x0 : y0 = (cnt ts 0 : Int) := by rw [← HY.out.1, cntZ, if_pos hm]
        have x1 : y1 = (cnt ts 1 : Int) := by rw [← HY.out.2.1, cntZ, if_pos hm]
        have x2 : y2 = (cnt ts 2 : Int) := by rw [← HY.out.2.2.1, cntZ, if_pos hm]
        have x3 : ye = 0 := by rw [← HY.out.2.2.2.1, if_pos hm]
        have X0 := Lib.hid x0
        have X1 := Lib.hid x1
        have X2 := Lib.hid x2
        subst x3
        clear hm x0 x1 x2
        have q0 : (y0 == y0) = true := by simp
        have q1 : (y1 == y1) = true := by simp
        have q2 : (y2 == y2) = true := by simp
        go_wp2_with fail
        have hB1 : Below w6.heap.size w6 w6.drew := (Below.refl _ _).drew
        go_region_held3 (fun w' => w'.cell? ⟨w1.heap.size, 0, none⟩ = some (.slice a m c) ∧ w'.cell? ⟨w1.heap.size, 1, none⟩ = some (.slice a' m' c') ∧ w'.cell? ⟨w3.heap.size, 0, none⟩ = some (.int .i64 y0) ∧ w'.cell? ⟨w3.heap.size, 1, none⟩ = some (.int .i64 y1) ∧ w'.cell? ⟨w3.heap.size, 2, none⟩ = some (.int .i64 y2) ∧ Below w6.heap.size w6 w')
          (first | exact ⟨k0, k1, p0, p1, p2, (Below.refl _ _).drew⟩ | (exact ⟨cellB (by assumption) k0, cellB (by assumption) k1, cellB (by assumption) p0, cellB (by assumption) p1, cellB (by assumption) p2, by assumption⟩))
          ((first | (go_at_call 16; refine (refCount_any a a' m c m' c' ts _ _ (slB (by assumption) T2) hm').mono ?_; rintro e wv ⟨rfl, hbv⟩; (first | rw [← X0.out] | rw [← X1.out] | rw [← X2.out]); have hbv' := below_from (by assumption) hbv) | fail))
        go_wp2_with fail
        go_ret
        exact ⟨rfl, below_from b7 hbv'⟩
end Go.Proofs.Ytmkpjmcekoenbaa
