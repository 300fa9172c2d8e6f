/- The walk of MemoryHolds. -/
import Derived.Test.YtmkpjmcekoenbaaLawA
import Derived.Test.YtmkpjmcekoenbaaMathB
namespace Go.Proofs.Ytmkpjmcekoenbaa
open Go.ChangeShapes Go.WideShapes Go.ChangeAt Go.RowKit

set_option maxHeartbeats 2000000 in
theorem Holds_walk (a a' : Option Addr) (n c n' c' : Nat) (ws ts : List Int) (i v k : Int) (w : World) (S1 : Sl w a (min n 170) ws) (S2 : Sl w a' (min n' 170) ts) (h1 : n ≤ c) (h2 : n' ≤ c') (h3 : c ≤ 9223372036854775807) (h4 : c' ≤ 9223372036854775807)
    (hi : (Lit.int .i64 i).wf = true) (hk : (Lit.int .i64 k).wf = true) :
    Calls Try.prog 6 #[.slice a n c, .slice a' n' c', .int .i64 i, .int .i64 v, .int .i64 k] w fun e w' => e = .returned (.bool true) ∧ Below w.heap.size w w' := by
  have HI := Lib.hid hi
  have HK := Lib.hid hk
  clear hi hk
  go_enter Try.func6, Try.ntmps6
  go_wp2_with fail
  refine (mem_any a a' n c n' c' w h1 h2 h3 h4).mono ?_
  rintro e w1 ⟨rfl, hb1⟩
  generalize min n 170 = m at S1 ⊢
  generalize min n' 170 = m' at S2 ⊢
  clear h1 h2 h3 h4
  go_wp2_with fail
  have T1 := slA (Obj.cells #[.slice a m c, .slice a' m' c'] 24) (slB hb1 S1)
  have T2 := slA (Obj.cells #[.slice a m c, .slice a' m' c'] 24) (slB hb1 S2)
  have b1 : Below w.heap.size w (w1.alloc (Obj.cells #[.slice a m c, .slice a' m' c'] 24)) := hb1.alloc hb1.size _
  refine (Load_any a a' m c m' c' ws ts k _ T1 T2 HK.out).mono ?_
  rintro e w2 ⟨rfl, hb2⟩
  have b2 : Below w.heap.size w w2 := below_from b1 hb2
  have k0 : w2.cell? ⟨w1.heap.size, 0, none⟩ = some (.slice a m c) := cellB hb2 (by simp)
  have k1 : w2.cell? ⟨w1.heap.size, 1, none⟩ = some (.slice a' m' c') := cellB hb2 (by simp)
  have hz2 : w1.heap.size < w2.heap.size := by have := hb2.size; simp at this; omega
  replace T1 := slB hb2 T1
  replace T2 := slB hb2 T2
  clear hb2 b1
  obtain ⟨x, hx⟩ : ∃ x, loadZ ws ts k = x := ⟨_, rfl⟩
  obtain ⟨xe, hxe⟩ : ∃ x, usableZ ws ts k = x := ⟨_, rfl⟩
  rw [hx, hxe]
  have HX := Lib.hid hx
  have HXE := Lib.hid hxe
  clear hx hxe
  go_wp2_with fail
  refine (Store_any a a' m c m' c' ws ts i v _ T1 T2 HI.out).mono ?_
  rintro e w3 ⟨p, l, d, p', l', d', rfl, u1, u2, hb3⟩
  have b3 : Below w.heap.size w w3 := below_from b2 hb3
  by_cases he : usableZ ws ts i = 0
  · have e1 : storeW ws ts i v = ws.set i.toNat v := by rw [storeW, if_pos he]
    have e2 : storeT ws ts i = ts := by rw [storeT, if_pos he]
    rw [e1] at u1
    rw [e2] at u2
    rw [he]
    have HE := Lib.hid he
    clear e1 e2 he k0 k1 hb3 b2
    have U1 := slA (Obj.cells #[.slice p l d, .slice p' l' d'] 24) u1.sl
    have U2 := slA (Obj.cells #[.slice p l d, .slice p' l' d'] 24) u2.sl
    have b4 : Below w.heap.size w (w3.alloc (Obj.cells #[.slice p l d, .slice p' l' d'] 24)) := b3.alloc b3.size _
    go_wp2_with fail
    refine (Load_any p p' l d l' d' _ ts k _ U1 U2 HK.out).mono ?_
    rintro e w4 ⟨rfl, hb4⟩
    have b5 : Below w.heap.size w w4 := below_from b4 hb4
    rw [usable_set HE.out, HXE.out]
    by_cases hki : k = i
    · subst hki
      rw [load_same HE.out]
      have hz : xe = 0 := by rw [← HXE.out, HE.out]
      subst hz
      have q1 : (k == k) = true := by simp
      have q2 : (v == v) = true := by simp
      clear hb4 b4
      go_wp2_with fail
      refine (alive_any _).mono ?_
      rintro e w5 ⟨rfl, hb5⟩
      have b6 : Below w.heap.size w w5 := below_from b5 hb5
      clear hb5 b5
      go_wp2_with fail
      go_ret
      exact ⟨rfl, b6⟩
    · have q1 : (k == i) = false := by simpa using hki
      rw [load_set HE.out hki, HX.out]
      have q2 : (x == x) = true := by simp
      have q3 : (xe == xe) = true := by simp
      clear hb4 b4 hki
      go_wp2_with fail
      refine (alive_any _).mono ?_
      rintro e w5 ⟨rfl, hb5⟩
      have b6 : Below w.heap.size w w5 := below_from b5 hb5
      clear hb5 b5
      go_wp2_with fail
      go_ret
      exact ⟨rfl, b6⟩
  · have e1 : storeW ws ts i v = [] := by rw [storeW, if_neg he]
    rw [e1] at u1
    have hl : 0 = l := u1.1
    subst hl
    have q1 : (usableZ ws ts i != 0) = true := by simpa using he
    generalize usableZ ws ts i = ev at q1
    clear he e1 u1 u2 k0 k1 hb3 b2
    go_wp2_with fail
    refine (alive_any _).mono ?_
    rintro e w5 ⟨rfl, hb5⟩
    have b4 : Below w.heap.size w (w3.alloc (Obj.cells #[.slice p 0 d, .slice p' l' d'] 24)) := b3.alloc b3.size _
    have b6 : Below w.heap.size w w5 := below_from b4 hb5
    have g0 : w5.cell? ⟨w3.heap.size, 0, none⟩ = some (.slice p 0 d) := cellB hb5 (by simp)
    clear hb5
    go_wp2_with fail
    go_ret
    exact ⟨rfl, b6⟩
end Go.Proofs.Ytmkpjmcekoenbaa
