/- Contracts of package memory: Right, Count, whyNotUsed, whyNotTaken, usable, Load. -/
import Derived.Test.YteojpdhmhjoeiaaMemA
namespace Go.Proofs.Yteojpdhmhjoeiaa
open Go.ChangeShapes Go.WideShapes Go.ChangeAt Go.RowKit

theorem Right_any (a a' : Option Addr) (n c n' c' : Nat) (ws ts : List Int) (w : World) (S1 : Sl w a n ws) (S2 : Sl w a' n' ts) :
    Calls Try.prog 55 #[.agg #[.slice a n c, .slice a' n' c']] w fun e w' => e = .returned (.bool (mayB ws ts)) ∧ Below w.heap.size w w' := by
  go_enter Try.func55, Try.ntmps55
  go_wp2_with fail
  refine (tally_any a a' n c n' c' ws ts _ (slA _ S1) (slA _ S2)).mono ?_
  rintro e w1 ⟨x, y, z, rfl, -, hb⟩
  have hb1 : Below w.heap.size w w1 := below_from (by go_grown) hb
  go_wp2
  go_ret
  exact ⟨rfl, hb1.alloc hb1.size _⟩

theorem load_arr3 (w : World) (b : Nat) (x y z : Value) (k0 : w.cell? ⟨b, 0, none⟩ = some x) (k1 : w.cell? ⟨b, 1, none⟩ = some y) (k2 : w.cell? ⟨b, 2, none⟩ = some z) : (loadVar 120 ⟨b, 0, none⟩).run Try.prog w = .ok (.agg #[x, y, z]) w := by
  simp [go_sem, k0, k1, k2]
theorem whyNotUsed_any (t : Int) (w : World) (h0 : 0 ≤ t) (h2 : t ≤ 2) :
    Calls Try.prog 73 #[.int .i64 t] w fun e w' => e = .returned (.int .i64 (useE t)) ∧ Below w.heap.size w w' := by
  have h : t = 0 ∨ t = 1 ∨ t = 2 := by omega
  rcases h with rfl | rfl | rfl
  all_goals
    go_enter Try.func73, Try.ntmps73
    go_wp2
    go_ret
    exact ⟨rfl, by go_grown⟩
theorem whyNotTaken_any (t : Int) (w : World) (h0 : 0 ≤ t) (h2 : t ≤ 2) :
    Calls Try.prog 80 #[.int .i64 t] w fun e w' => e = .returned (.int .i64 (takeE t)) ∧ Below w.heap.size w w' := by
  have h : t = 0 ∨ t = 1 ∨ t = 2 := by omega
  rcases h with rfl | rfl | rfl
  all_goals
    go_enter Try.func80, Try.ntmps80
    go_wp2
    go_ret
    exact ⟨rfl, by go_grown⟩

theorem usable_any (a a' : Option Addr) (n c n' c' : Nat) (ws ts : List Int) (i : Int) (w : World) (S1 : Sl w a n ws) (S2 : Sl w a' n' ts) (hi : (Lit.int .i64 i).wf = true) :
    Calls Try.prog 51 #[.agg #[.slice a n c, .slice a' n' c'], .int .i64 i] w fun e w' => e = .returned (.int .i64 (usableZ ws ts i)) ∧ Below w.heap.size w w' := by
  have hb0 : -9223372036854775808 ≤ i ∧ i ≤ 9223372036854775807 := by simpa [Lit.wf, IntKind.min, IntKind.max, IntKind.signed, IntKind.bits] using hi
  have HB := Lib.hid hb0
  clear hb0
  cases hm : mayB ws ts with
  | false =>
    have Hm := Lib.hid hm
    clear hm
    go_enter Try.func51, Try.ntmps51
    go_wp2_with fail
    refine (Right_any a a' n c n' c' ws ts _ (slA _ S1) (slA _ S2)).mono ?_
    rintro e w1 ⟨rfl, hb⟩
    have hb1 : Below w.heap.size w w1 := below_from (by go_grown) hb
    rw [Hm.out]
    go_wp2
    go_ret
    exact ⟨ret_int (by simp [usableZ, Hm.out]), hb1⟩
  | true =>
    have Hm := Lib.hid hm
    obtain ⟨z0, z1, z2⟩ := mayB_size hm
    have hn := S1.1
    have hn' := S2.1
    obtain rfl : n' = n := by omega
    obtain ⟨-, b1, o1, rfl, R1⟩ := sl_some S1 (by omega)
    obtain ⟨-, b2, o2, rfl, R2⟩ := sl_some S2 (by omega)
    have Hn := Lib.hid hn
    have Hn' := Lib.hid hn'
    have z3 : 1 ≤ n' := by omega
    have z4 : n' ≤ 160 := by omega
    clear hm z0 z1 z2 hn hn'
    go_enter Try.func51, Try.ntmps51
    go_wp2_with fail
    refine (Right_any _ _ n' c n' c' ws ts _ (slA _ S1) (slA _ S2)).mono ?_
    rintro e w1 ⟨rfl, hb⟩
    have hb1 : Below w.heap.size w w1 := below_from (by go_grown) hb
    obtain ⟨hc, hf⟩ := bcell hb
    have hs1 : w.heap.size < w1.heap.size := by have := hb.size; simp at this; omega
    rw [Hm.out]
    go_wp2_with fail
    refine (within_any _ _ n' c n' c' i 1 _ z4 HB.out.1 HB.out.2).mono ?_
    rintro e w2 ⟨rfl, hb'⟩
    have hb2 : Below w.heap.size w w2 := hb1.trans (hb'.mono (by omega))
    cases hin : withinB n' i 1 with
    | false =>
      have HE := Lib.hid (show (3 : Int) = usableZ ws ts i by
        have : ¬ (0 ≤ i ∧ i < ws.length) := by rw [Hn.out]; simp [withinB] at hin; omega
        rw [usableZ, if_pos Hm.out, if_neg this])
      clear hin
      go_wp2
      go_ret
      exact ⟨ret_int HE.out, hb2⟩
    | true =>
      have hi2 : 0 ≤ i ∧ i < n' := by simp [withinB] at hin; omega
      obtain ⟨hi0, hi1⟩ := hi2
      clear hin
      obtain ⟨k, rfl⟩ := Int.eq_ofNat_of_zero_le hi0
      have hk : k < n' := by omega
      have HE := Lib.hid (show useE (ts.getD k 0) = usableZ ws ts (k : Int) by
        rw [usableZ, if_pos Hm.out, if_pos ⟨by omega, by rw [Hn.out]; omega⟩]; simp)
      have ht := mayB_tag Hm.out k (by rw [Hn.out]; exact hk)
      have g2 := rowB hb2 R2 k (by rw [Hn'.out]; exact hk)
      generalize ts.getD k 0 = tv at HE ht g2
      obtain ⟨ht0, ht2⟩ := ht
      obtain ⟨hc', hf'⟩ := bcell hb'
      go_wp2_with fail
      refine (whyNotUsed_any _ _ ht0 ht2).mono ?_
      rintro e w3 ⟨rfl, hb''⟩
      have hb3 : Below w.heap.size w w3 := hb2.trans (hb''.mono hb2.size)
      go_wp2
      go_ret
      exact ⟨ret_int HE.out, hb3⟩

theorem Load_any (a a' : Option Addr) (n c n' c' : Nat) (ws ts : List Int) (i : Int) (w : World) (S1 : Sl w a n ws) (S2 : Sl w a' n' ts) (hi : (Lit.int .i64 i).wf = true) :
    Calls Try.prog 23 #[.agg #[.slice a n c, .slice a' n' c'], .int .i64 i] w fun e w' => e = .returned (.tuple #[.int .i64 (loadZ ws ts i), .int .i64 (usableZ ws ts i)]) ∧ Below w.heap.size w w' := by
  by_cases he : usableZ ws ts i = 0
  · obtain ⟨hm, h0, h1, h2⟩ := usable_zero he
    obtain ⟨z0, z1, z2⟩ := mayB_size hm
    have hn := S1.1
    have hn' := S2.1
    obtain rfl : n' = n := by omega
    obtain ⟨-, b1, o1, rfl, R1⟩ := sl_some S1 (by omega)
    have Hn := Lib.hid hn
    have z3 : 1 ≤ n' := by omega
    have hlt : i < n' := by omega
    have HE := Lib.hid he
    have HW := Lib.hid hi
    clear hm z0 z1 z2 hn hn' h1 h2 he hi
    obtain ⟨k, rfl⟩ := Int.eq_ofNat_of_zero_le h0
    have hk : k < n' := by omega
    have HV := Lib.hid (show ws.getD k 0 = loadZ ws ts (k : Int) by rw [loadZ, if_pos HE.out]; simp)
    go_enter Try.func23, Try.ntmps23
    go_wp2_with fail
    refine (usable_any _ _ n' c n' c' ws ts _ _ (slA _ S1) (slA _ S2) HW.out).mono ?_
    rintro e w1 ⟨rfl, hb⟩
    have hb1 : Below w.heap.size w w1 := below_from (by go_grown) hb
    obtain ⟨hc, hf⟩ := bcell hb
    have g1 := rowB hb1 R1 k (by rw [Hn.out]; exact hk)
    generalize ws.getD k 0 = wv at HV g1
    rw [HE.out]
    go_wp2
    go_ret2
    exact ⟨ret_two HV.out HE.out.symm, hb1⟩
  · have HE := Lib.hid (show (usableZ ws ts i != 0) = true by simpa using he)
    have HV := Lib.hid (show loadZ ws ts i = 0 by rw [loadZ, if_neg he])
    have HW := Lib.hid hi
    clear he hi
    go_enter Try.func23, Try.ntmps23
    go_wp2_with fail
    refine (usable_any _ _ n c n' c' ws ts _ _ (slA _ S1) (slA _ S2) HW.out).mono ?_
    rintro e w1 ⟨rfl, hb⟩
    have hb1 : Below w.heap.size w w1 := below_from (by go_grown) hb
    have HE' := HE.out
    obtain ⟨ev, hev⟩ : ∃ ev, usableZ ws ts i = ev := ⟨_, rfl⟩
    have HX := Lib.hid hev
    rw [hev] at HE' ⊢
    clear hev
    go_wp2
    go_ret2
    exact ⟨ret_two HV.out.symm HX.out.symm, hb1⟩
end Go.Proofs.Yteojpdhmhjoeiaa
