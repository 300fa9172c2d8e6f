/- The walks of MemoryLoads and MemoryMarks. -/
import Derived.Test.YtmkpjmcekoenbaaLawA
import Derived.Test.YtmkpjmcekoenbaaRefD
namespace Go.Proofs.Ytmkpjmcekoenbaa
open Go.ChangeShapes Go.WideShapes Go.ChangeAt Go.RowKit

set_option maxHeartbeats 4000000 in
theorem Loads_walk (a a' : Option Addr) (n c n' c' : Nat) (ws ts : List Int) (i v : Int) (w : World) (S1 : Sl w a (min n 170) ws) (S2 : Sl w a' (min n' 170) ts) (h1 : n ≤ c) (h2 : n' ≤ c') (h3 : c ≤ 9223372036854775807) (h4 : c' ≤ 9223372036854775807)
    (hi : (Lit.int .i64 i).wf = true) :
    Calls Try.prog 4 #[.slice a n c, .slice a' n' c', .int .i64 i, .int .i64 v] w fun e w' => e = .returned (.bool true) ∧ Below w.heap.size w w' := by
  have HI := Lib.hid hi
  clear hi
  go_enter Try.func4, Try.ntmps4
  go_wp2_with fail
  refine (mem_any a a' n c n' c' w h1 h2 h3 h4).mono ?_
  rintro e w1 ⟨rfl, hb1⟩
  generalize min n 170 = m at S1 ⊢
  generalize min n' 170 = m' at S2 ⊢
  clear h1 h2 h3 h4
  go_wp2_with fail
  have T1 := slA (Obj.cells #[.slice a m c, .slice a' m' c'] 24) (slB hb1 S1)
  have T2 := slA (Obj.cells #[.slice a m c, .slice a' m' c'] 24) (slB hb1 S2)
  have b1 : Below w.heap.size w (w1.alloc (Obj.cells #[.slice a m c, .slice a' m' c'] 24)) := hb1.alloc hb1.size _
  refine (Load_any a a' m c m' c' ws ts i _ T1 T2 HI.out).mono ?_
  rintro e w2 ⟨rfl, hb2⟩
  have b2 : Below w.heap.size w w2 := below_from b1 hb2
  have k0 : w2.cell? ⟨w1.heap.size, 0, none⟩ = some (.slice a m c) := cellB hb2 (by simp)
  have k1 : w2.cell? ⟨w1.heap.size, 1, none⟩ = some (.slice a' m' c') := cellB hb2 (by simp)
  replace T1 := slB hb2 T1
  replace T2 := slB hb2 T2
  clear hb2 b1
  obtain ⟨x, hx⟩ : ∃ x, loadZ ws ts i = x := ⟨_, rfl⟩
  obtain ⟨xe, hxe⟩ : ∃ x, usableZ ws ts i = x := ⟨_, rfl⟩
  rw [hx, hxe]
  have HX := Lib.hid hx
  have HXE := Lib.hid hxe
  clear hx hxe
  go_wp2_with fail
  refine (Store_any a a' m c m' c' ws ts i v _ T1 T2 HI.out).mono ?_
  rintro e w3 ⟨p, l, d, p', l', d', rfl, u1, u2, hb3⟩
  rw [HXE.out]
  have b3 : Below w.heap.size w w3 := below_from b2 hb3
  have b4 : Below w.heap.size w (w3.alloc (Obj.cells #[.slice p l d, .slice p' l' d'] 24)) := b3.alloc b3.size _
  have U1 := slA (Obj.cells #[.slice p l d, .slice p' l' d'] 24) u1.sl
  have U2 := slA (Obj.cells #[.slice p l d, .slice p' l' d'] 24) u2.sl
  replace T1 := slA (Obj.cells #[.slice p l d, .slice p' l' d'] 24) (slB hb3 T1)
  replace T2 := slA (Obj.cells #[.slice p l d, .slice p' l' d'] 24) (slB hb3 T2)
  replace k0 := cellA (Obj.cells #[.slice p l d, .slice p' l' d'] 24) (cellB hb3 k0)
  replace k1 := cellA (Obj.cells #[.slice p l d, .slice p' l' d'] 24) (cellB hb3 k1)
  have n0 : (w3.alloc (Obj.cells #[.slice p l d, .slice p' l' d'] 24)).cell? ⟨w3.heap.size, 0, none⟩ = some (.slice p l d) := by simp
  have n1 : (w3.alloc (Obj.cells #[.slice p l d, .slice p' l' d'] 24)).cell? ⟨w3.heap.size, 1, none⟩ = some (.slice p' l' d') := by simp
  clear hb3 b2 b3 u1 u2
  go_wp2_with fail
  refine (refRight_any a a' m c m' c' ws ts _ T1 T2).mono ?_
  rintro e w4 ⟨rfl, hb4⟩
  have b5 : Below w.heap.size w w4 := below_from b4 hb4
  replace U1 := slB hb4 U1
  replace U2 := slB hb4 U2
  replace T1 := slB hb4 T1
  replace T2 := slB hb4 T2
  replace k0 := cellB hb4 k0
  replace k1 := cellB hb4 k1
  replace n0 := cellB hb4 n0
  replace n1 := cellB hb4 n1
  clear hb4 b4
  cases hm : mayB ws ts with
  | false =>
    have e1 : usableZ ws ts i = 1 := by rw [usableZ, if_neg (by rw [hm]; decide)]
    have e2 : x = 0 := by rw [← HX.out, loadZ, e1, if_neg (by decide)]
    have e3 : xe = 1 := by rw [← HXE.out, e1]
    have e4 : storeW ws ts i v = [] := by rw [storeW, e1, if_neg (by decide)]
    have e5 : storeT ws ts i = [] := by rw [storeT, e1, if_neg (by decide)]
    rw [e4] at U1
    rw [e5] at U2
    obtain rfl : 0 = l := U1.1
    obtain rfl : 0 = l' := U2.1
    subst e2 e3
    clear e1 e4 e5 hm k0 k1 T1 T2
    go_wp2_with fail
    refine (alive_any _).mono ?_
    rintro e w5 ⟨rfl, hb5⟩
    have b6 : Below w.heap.size w w5 := below_from b5 hb5
    replace U1 := slB hb5 U1
    replace U2 := slB hb5 U2
    replace n0 := cellB hb5 n0
    replace n1 := cellB hb5 n1
    clear hb5 b5
    go_wp2_with fail
    refine (Same_any p p' 0 d 0 d' none none 0 0 0 0 [] [] [] [] _ U1 U2 (sl_nil _) (sl_nil _) (by omega) (by omega)).mono ?_
    rintro e w6 ⟨rfl, hb6⟩
    rw [sameB_refl]
    have b7 : Below w.heap.size w w6 := below_from b6 hb6
    clear hb6 b6
    go_wp2_with fail
    go_ret
    exact ⟨rfl, b7⟩
  | true =>
    have hz := mayB_size hm
    have HM := Lib.hid hm
    clear hm
    have hl1 := U1.1
    have hl2 := U2.1
    have hlw : l ≤ 160 := by
      rw [← hl1, storeW]; split
      · rw [List.length_set]; omega
      · simp
    have hlt : l' ≤ 160 := by
      rw [← hl2, storeT]; split
      · omega
      · simp
    clear hl1 hl2 hz
    go_wp2_with fail
    refine (refLoad_any a a' m c m' c' ws ts i _ T1 T2 HM.out).mono ?_
    rintro e w5 ⟨rfl, hb5⟩
    rw [HX.out, HXE.out]
    have b6 : Below w.heap.size w w5 := below_from b5 hb5
    replace U1 := slB hb5 U1
    replace U2 := slB hb5 U2
    replace T1 := slB hb5 T1
    replace T2 := slB hb5 T2
    replace k0 := cellB hb5 k0
    replace k1 := cellB hb5 k1
    replace n0 := cellB hb5 n0
    replace n1 := cellB hb5 n1
    clear hb5 b5
    go_wp2_with fail
    refine (refStore_any a a' m c m' c' ws ts i v _ T1 T2 HM.out).mono ?_
    rintro e w6 ⟨q, g, f, q', g', f', rfl, V1, V2, hb6⟩
    rw [HXE.out]
    have b7 : Below w.heap.size w w6 := below_from b6 hb6
    have b8 : Below w.heap.size w (w6.alloc (Obj.cells #[.slice q g f, .slice q' g' f'] 24)) := b7.alloc b7.size _
    replace U1 := slA (Obj.cells #[.slice q g f, .slice q' g' f'] 24) (slB hb6 U1)
    replace U2 := slA (Obj.cells #[.slice q g f, .slice q' g' f'] 24) (slB hb6 U2)
    replace V1 := slA (Obj.cells #[.slice q g f, .slice q' g' f'] 24) V1
    replace V2 := slA (Obj.cells #[.slice q g f, .slice q' g' f'] 24) V2
    replace n0 := cellA (Obj.cells #[.slice q g f, .slice q' g' f'] 24) (cellB hb6 n0)
    replace n1 := cellA (Obj.cells #[.slice q g f, .slice q' g' f'] 24) (cellB hb6 n1)
    have o0 : (w6.alloc (Obj.cells #[.slice q g f, .slice q' g' f'] 24)).cell? ⟨w6.heap.size, 0, none⟩ = some (.slice q g f) := by simp
    have o1 : (w6.alloc (Obj.cells #[.slice q g f, .slice q' g' f'] 24)).cell? ⟨w6.heap.size, 1, none⟩ = some (.slice q' g' f') := by simp
    clear hb6 b6 b7 k0 k1 T1 T2
    go_wp2_with fail
    refine (alive_any _).mono ?_
    rintro e w7 ⟨rfl, hb7⟩
    have b9 : Below w.heap.size w w7 := below_from b8 hb7
    replace U1 := slB hb7 U1
    replace U2 := slB hb7 U2
    replace V1 := slB hb7 V1
    replace V2 := slB hb7 V2
    replace n0 := cellB hb7 n0
    replace n1 := cellB hb7 n1
    replace o0 := cellB hb7 o0
    replace o1 := cellB hb7 o1
    clear hb7 b8
    have q1 : (x == x) = true := by simp
    have q2 : (xe == xe) = true := by simp
    go_wp2_with fail
    refine (Same_any p p' l d l' d' q q' g f g' f' _ _ _ _ _ U1 U2 V1 V2 (by omega) (by omega)).mono ?_
    rintro e w8 ⟨rfl, hb8⟩
    rw [sameB_refl, sameB_refl]
    have b10 : Below w.heap.size w w8 := below_from b9 hb8
    clear hb8 b9
    go_wp2_with fail
    go_ret
    exact ⟨rfl, b10⟩

theorem mark_len {ws ts : List Int} {i k tag : Int} (hm : mayB ws ts = true) : (markW ws ts i k tag).length ≤ 160 ∧ (markT ws ts i k tag).length ≤ 160 := by
  have hz := mayB_size hm
  constructor
  · rw [markW]; split
    · omega
    · simp
  · rw [markT]; split
    · rw [setR_length]; omega
    · simp

set_option maxHeartbeats 4000000 in
theorem Marks_walk (a a' : Option Addr) (n c n' c' : Nat) (ws ts : List Int) (i k tag : Int) (w : World) (S1 : Sl w a (min n 170) ws) (S2 : Sl w a' (min n' 170) ts) (h1 : n ≤ c) (h2 : n' ≤ c') (h3 : c ≤ 9223372036854775807) (h4 : c' ≤ 9223372036854775807)
    (hi : (Lit.int .i64 i).wf = true) :
    Calls Try.prog 5 #[.slice a n c, .slice a' n' c', .int .i64 i, .int .i64 k, .int .i64 tag] w fun e w' => e = .returned (.bool true) ∧ Below w.heap.size w w' := by
  have HI := Lib.hid hi
  clear hi
  go_enter Try.func5, Try.ntmps5
  go_wp2_with fail
  refine (mem_any a a' n c n' c' w h1 h2 h3 h4).mono ?_
  rintro e w1 ⟨rfl, hb1⟩
  generalize min n 170 = m at S1 ⊢
  generalize min n' 170 = m' at S2 ⊢
  clear h1 h2 h3 h4
  go_wp2_with fail
  have T1 := slA (Obj.cells #[.slice a m c, .slice a' m' c'] 24) (slB hb1 S1)
  have T2 := slA (Obj.cells #[.slice a m c, .slice a' m' c'] 24) (slB hb1 S2)
  have b1 : Below w.heap.size w (w1.alloc (Obj.cells #[.slice a m c, .slice a' m' c'] 24)) := hb1.alloc hb1.size _
  have k0 : (w1.alloc (Obj.cells #[.slice a m c, .slice a' m' c'] 24)).cell? ⟨w1.heap.size, 0, none⟩ = some (.slice a m c) := by simp
  have k1 : (w1.alloc (Obj.cells #[.slice a m c, .slice a' m' c'] 24)).cell? ⟨w1.heap.size, 1, none⟩ = some (.slice a' m' c') := by simp
  refine (Mark_any a a' m c m' c' ws ts i k tag _ T1 T2 HI.out).mono ?_
  rintro e w3 ⟨p, l, d, p', l', d', rfl, u1, u2, hb3⟩
  obtain ⟨xe, hxe⟩ : ∃ x, markE ws ts i k tag = x := ⟨_, rfl⟩
  rw [hxe]
  have HXE := Lib.hid hxe
  clear hxe
  have b3 : Below w.heap.size w w3 := below_from b1 hb3
  have b4 : Below w.heap.size w (w3.alloc (Obj.cells #[.slice p l d, .slice p' l' d'] 24)) := b3.alloc b3.size _
  have U1 := slA (Obj.cells #[.slice p l d, .slice p' l' d'] 24) u1.sl
  have U2 := slA (Obj.cells #[.slice p l d, .slice p' l' d'] 24) u2.sl
  replace T1 := slA (Obj.cells #[.slice p l d, .slice p' l' d'] 24) (slB hb3 T1)
  replace T2 := slA (Obj.cells #[.slice p l d, .slice p' l' d'] 24) (slB hb3 T2)
  replace k0 := cellA (Obj.cells #[.slice p l d, .slice p' l' d'] 24) (cellB hb3 k0)
  replace k1 := cellA (Obj.cells #[.slice p l d, .slice p' l' d'] 24) (cellB hb3 k1)
  have n0 : (w3.alloc (Obj.cells #[.slice p l d, .slice p' l' d'] 24)).cell? ⟨w3.heap.size, 0, none⟩ = some (.slice p l d) := by simp
  have n1 : (w3.alloc (Obj.cells #[.slice p l d, .slice p' l' d'] 24)).cell? ⟨w3.heap.size, 1, none⟩ = some (.slice p' l' d') := by simp
  clear hb3 b1 b3 u1 u2
  go_wp2_with fail
  refine (refRight_any a a' m c m' c' ws ts _ T1 T2).mono ?_
  rintro e w4 ⟨rfl, hb4⟩
  have b5 : Below w.heap.size w w4 := below_from b4 hb4
  replace U1 := slB hb4 U1
  replace U2 := slB hb4 U2
  replace T1 := slB hb4 T1
  replace T2 := slB hb4 T2
  replace k0 := cellB hb4 k0
  replace k1 := cellB hb4 k1
  replace n0 := cellB hb4 n0
  replace n1 := cellB hb4 n1
  clear hb4 b4
  by_cases hg : mayB ws ts = true ∧ (tag = 1 ∨ tag = 2)
  · obtain ⟨hm, ht⟩ := hg
    have hlen := mark_len (i := i) (k := k) (tag := tag) hm
    have hl1 := U1.1
    have hl2 := U2.1
    have hlw : l ≤ 160 := by omega
    have hlt : l' ≤ 160 := by omega
    rw [hm]
    have HM := Lib.hid hm
    have HT := Lib.hid ht
    have t1 : decide (tag < 1) = false := by simp; omega
    have t2 : decide (2 < tag) = false := by simp; omega
    clear hm ht hl1 hl2 hlen
    go_wp2_with fail
    refine (refMark_any a a' m c m' c' ws ts i k tag _ HT.out T1 T2 HI.out HM.out).mono ?_
    rintro e w6 ⟨q, g, f, q', g', f', rfl, V1, V2, hb6⟩
    rw [HXE.out]
    have b7 : Below w.heap.size w w6 := below_from b5 hb6
    have b8 : Below w.heap.size w (w6.alloc (Obj.cells #[.slice q g f, .slice q' g' f'] 24)) := b7.alloc b7.size _
    replace U1 := slA (Obj.cells #[.slice q g f, .slice q' g' f'] 24) (slB hb6 U1)
    replace U2 := slA (Obj.cells #[.slice q g f, .slice q' g' f'] 24) (slB hb6 U2)
    replace V1 := slA (Obj.cells #[.slice q g f, .slice q' g' f'] 24) V1
    replace V2 := slA (Obj.cells #[.slice q g f, .slice q' g' f'] 24) V2
    replace n0 := cellA (Obj.cells #[.slice q g f, .slice q' g' f'] 24) (cellB hb6 n0)
    replace n1 := cellA (Obj.cells #[.slice q g f, .slice q' g' f'] 24) (cellB hb6 n1)
    have o0 : (w6.alloc (Obj.cells #[.slice q g f, .slice q' g' f'] 24)).cell? ⟨w6.heap.size, 0, none⟩ = some (.slice q g f) := by simp
    have o1 : (w6.alloc (Obj.cells #[.slice q g f, .slice q' g' f'] 24)).cell? ⟨w6.heap.size, 1, none⟩ = some (.slice q' g' f') := by simp
    clear hb6 b5 b7 k0 k1 T1 T2
    go_wp2_with fail
    refine (alive_any _).mono ?_
    rintro e w7 ⟨rfl, hb7⟩
    have b9 : Below w.heap.size w w7 := below_from b8 hb7
    replace U1 := slB hb7 U1
    replace U2 := slB hb7 U2
    replace V1 := slB hb7 V1
    replace V2 := slB hb7 V2
    replace n0 := cellB hb7 n0
    replace n1 := cellB hb7 n1
    replace o0 := cellB hb7 o0
    replace o1 := cellB hb7 o1
    clear hb7 b8
    have q2 : (xe == xe) = true := by simp
    go_wp2_with fail
    refine (Same_any p p' l d l' d' q q' g f g' f' _ _ _ _ _ U1 U2 V1 V2 (by omega) (by omega)).mono ?_
    rintro e w8 ⟨rfl, hb8⟩
    rw [sameB_refl, sameB_refl]
    have b10 : Below w.heap.size w w8 := below_from b9 hb8
    clear hb8 b9
    go_wp2_with fail
    go_ret
    exact ⟨rfl, b10⟩
  · have e1 : markE ws ts i k tag = 1 := by rw [markE, if_neg hg]
    have e3 : xe = 1 := by rw [← HXE.out, e1]
    have e4 : markW ws ts i k tag = [] := by rw [markW, e1, if_neg (by decide)]
    have e5 : markT ws ts i k tag = [] := by rw [markT, e1, if_neg (by decide)]
    rw [e4] at U1
    rw [e5] at U2
    obtain rfl : 0 = l := U1.1
    obtain rfl : 0 = l' := U2.1
    subst e3
    have hg' : mayB ws ts = false ∨ (mayB ws ts = true ∧ tag < 1) ∨ (mayB ws ts = true ∧ 1 ≤ tag ∧ 2 < tag) := by
      cases hm : mayB ws ts with
      | false => exact .inl rfl
      | true =>
        have h5 : ¬ (tag = 1 ∨ tag = 2) := fun h => hg ⟨hm, h⟩
        by_cases h6 : tag < 1
        · exact .inr (.inl ⟨rfl, h6⟩)
        · exact .inr (.inr ⟨rfl, by omega, by omega⟩)
    clear e1 e4 e5 hg k0 k1 T1 T2
    rcases hg' with hm | ⟨hm, ht⟩ | ⟨hm, ht, ht'⟩
    all_goals
      rw [hm]
      clear hm
      go_wp2_with fail
      refine (alive_any _).mono ?_
      rintro e w5 ⟨rfl, hb5⟩
      have b6 : Below w.heap.size w w5 := below_from b5 hb5
      replace U1 := slB hb5 U1
      replace U2 := slB hb5 U2
      replace n0 := cellB hb5 n0
      replace n1 := cellB hb5 n1
      clear hb5 b5
      go_wp2_with fail
      refine (Same_any p p' 0 d 0 d' none none 0 0 0 0 [] [] [] [] _ U1 U2 (sl_nil _) (sl_nil _) (by omega) (by omega)).mono ?_
      rintro e w6 ⟨rfl, hb6⟩
      rw [sameB_refl]
      have b7 : Below w.heap.size w w6 := below_from b6 hb6
      clear hb6 b6
      go_wp2_with fail
      go_ret
      exact ⟨rfl, b7⟩
end Go.Proofs.Ytmkpjmcekoenbaa
