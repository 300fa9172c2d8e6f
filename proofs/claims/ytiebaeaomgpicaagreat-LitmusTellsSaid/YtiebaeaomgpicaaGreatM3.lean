/- MemA, MemB, MemC, MemD, BaseP, BaseT, put together. -/
import Derived.Test.YtiebaeaomgpicaaGreatM2
import Derived.Test.YtiebaeaomgpicaaGreatM1
import Derived.Deep.SlicePairs
/- Contracts of package memory's own small functions: within, tally, Right, whyNotUsed, whyNotTaken, usable, Count. -/
namespace Go.Proofs.YtiebaeaomgpicaaGreat
open Go.ChangeShapes Go.WideShapes Go.ChangeAt Go.RowKit

theorem within_any (a b : Option Addr) (n c n' c' : Nat) (i k : Int) (w : World) (hn : n ≤ 160) (ha : -9223372036854775808 ≤ i) (ha2 : i ≤ 9223372036854775807) :
    Calls Tryz.prog 67 #[.agg #[.slice a n c, .slice b n' c'], .int .i64 i, .int .i64 k] w fun e w' => e = .returned (.bool (withinB n i k)) ∧ Below w.heap.size w w' := by
  by_cases h1 : 1 ≤ k
  · by_cases h2 : 0 ≤ i
    · by_cases h3 : k ≤ n - i
      · go_enter Tryz.func67, Tryz.ntmps67
        go_wp2
        go_ret
        exact ⟨ret_bool (by simp [withinB]; omega), by go_grown⟩
      · go_enter Tryz.func67, Tryz.ntmps67
        go_wp2
        go_ret
        exact ⟨ret_bool (by simp [withinB]; omega), by go_grown⟩
    · go_enter Tryz.func67, Tryz.ntmps67
      go_wp2
      go_ret
      exact ⟨ret_bool (by simp [withinB]; omega), by go_grown⟩
  · go_enter Tryz.func67, Tryz.ntmps67
    go_wp2
    go_ret
    exact ⟨ret_bool (by simp [withinB]; omega), by go_grown⟩

def TallyPost (ws ts : List Int) (w : World) (e : Ending) (w' : World) : Prop :=
  ∃ x y z : Int, e = .returned (.tuple #[.agg #[.int .i64 x, .int .i64 y, .int .i64 z], .bool (mayB ws ts)]) ∧ (mayB ws ts = true → x = cnt ts 0 ∧ y = cnt ts 1 ∧ z = cnt ts 2) ∧ Below w.heap.size w w'

theorem tally_mk {ws ts : List Int} {w w' : World} {x y z : Int} {r : Bool} (h : mayB ws ts = r) (hc : r = true → x = cnt ts 0 ∧ y = cnt ts 1 ∧ z = cnt ts 2) (hb : Below w.heap.size w w') :
    TallyPost ws ts w (.returned (.tuple #[.agg #[.int .i64 x, .int .i64 y, .int .i64 z], .bool r])) w' := by
  subst h; exact ⟨x, y, z, rfl, hc, hb⟩
theorem may_bad {ws ts : List Int} {n k : Nat} (hw : ws.length = n) (hk : k < n) {t v : Int} (ht : ts.getD k 0 = t) (hv : ws.getD k 0 = v) (h : t < 0 ∨ 2 < t ∨ (t = 0 ∧ v ≠ 0)) : mayB ws ts = false := by
  have : goodB ws ts ws.length = false := good_not (k := k) (by omega) (by
    simp only [okB, ht, hv, decide_eq_false_iff_not]; omega)
  simp [mayB, this]
theorem may_done {ws ts : List Int} {n : Nat} (hw : ws.length = n) (ht : ts.length = n) (h0 : 1 ≤ n) (h1 : n ≤ 160) (hg : goodTo ws ts n) : mayB ws ts = true := by
  have : goodB ws ts ws.length = true := goodB_iff.2 (by rw [hw]; exact hg)
  simp [mayB, this, sizeB]; omega
theorem good_next {ws ts : List Int} {k : Nat} {t v : Int} (hg : goodTo ws ts k) (ht : ts.getD k 0 = t) (hv : ws.getD k 0 = v) (h : 0 ≤ t ∧ t ≤ 2 ∧ (t = 0 → v = 0)) : goodTo ws ts (k + 1) :=
  good_step hg (by simp only [okB, ht, hv, decide_eq_true_eq]; exact h)

def TallyRel (ws ts : List Int) (k x y z : Nat) : Prop := goodTo ws ts k ∧ x = cnt (ts.take k) 0 ∧ y = cnt (ts.take k) 1 ∧ z = cnt (ts.take k) 2
theorem rel_next {ws ts : List Int} {k x y z : Nat} {t v : Int} (hk : k < ts.length) (hr : TallyRel ws ts k x y z) (ht : ts.getD k 0 = t) (hv : ws.getD k 0 = v) (h : 0 ≤ t ∧ t ≤ 2 ∧ (t = 0 → v = 0)) :
    TallyRel ws ts (k + 1) (x + if t = 0 then 1 else 0) (y + if t = 1 then 1 else 0) (z + if t = 2 then 1 else 0) := by
  obtain ⟨h1, h2, h3, h4⟩ := hr
  refine ⟨good_next h1 ht hv h, ?_, ?_, ?_⟩
  · rw [cnt_take 0 hk, ht, h2]
  · rw [cnt_take 1 hk, ht, h3]
  · rw [cnt_take 2 hk, ht, h4]

set_option maxHeartbeats 2000000 in
theorem tally_good (b1 o1 b2 o2 n c1 c2 : Nat) (ws ts : List Int) (w : World) (hw : ws.length = n) (ht : ts.length = n) (R1 : Row w b1 o1 ws) (R2 : Row w b2 o2 ts) (h0 : 1 ≤ n) (h160 : n ≤ 160) :
    Calls Tryz.prog 97 #[.agg #[.slice (some ⟨b1, o1, none⟩) n c1, .slice (some ⟨b2, o2, none⟩) n c2]] w (TallyPost ws ts w) := by
  have Hw := Lib.hid hw
  have Ht := Lib.hid ht
  clear hw ht
  have t0 : decide ((n : Int) < 1) = false := by simp; omega
  have t1 : decide (160 < (n : Int)) = false := by simp; omega
  have t2 : ((n : Int) != n) = false := by simp
  go_enter Tryz.func97, Tryz.ntmps97
  go_wp2
  go_loopw [30] (fun i wr => ∃ k : Nat, k ≤ n ∧ i = .int .i64 k ∧ ∃ x y z : Nat, x ≤ k ∧ y ≤ k ∧ z ≤ k ∧ TallyRel ws ts k x y z ∧ wr = ((w.alloc (Obj.cells #[.slice (some ⟨b1, o1, none⟩) n c1, .slice (some ⟨b2, o2, none⟩) n c2] 43)).alloc (Obj.cells #[.int .i64 0, .int .i64 0, .int .i64 0] 142)).alloc (Obj.cells #[.int .i64 (x : Int), .int .i64 (y : Int), .int .i64 (z : Int)] 142)) (fun i _ => n - (intOf i).toNat)
  case atStart => exact ⟨0, by omega, rfl, 0, 0, 0, by omega, by omega, by omega, ⟨by intro i hi; omega, rfl, rfl, rfl⟩, rfl⟩
  case round =>
    obtain ⟨k, hk, rfl, x, y, z, hx, hy, hz, hr, rfl⟩ := hrel
    by_cases hlt : k < n
    · have g1 := R1 k (by rw [Hw.out]; exact hlt)
      have g2 := R2 k (by rw [Ht.out]; exact hlt)
      have HK := Lib.hid (show k < ts.length by rw [Ht.out]; exact hlt)
      generalize htv : ts.getD k 0 = tv at g2
      generalize hwv : ws.getD k 0 = wv at g1
      replace g1 := cellA (Obj.cells #[.int .i64 (x : Int), .int .i64 (y : Int), .int .i64 (z : Int)] 142) (cellA (Obj.cells #[.int .i64 0, .int .i64 0, .int .i64 0] 142) (cellA (Obj.cells #[.slice (some ⟨b1, o1, none⟩) n c1, .slice (some ⟨b2, o2, none⟩) n c2] 43) g1))
      replace g2 := cellA (Obj.cells #[.int .i64 (x : Int), .int .i64 (y : Int), .int .i64 (z : Int)] 142) (cellA (Obj.cells #[.int .i64 0, .int .i64 0, .int .i64 0] 142) (cellA (Obj.cells #[.slice (some ⟨b1, o1, none⟩) n c1, .slice (some ⟨b2, o2, none⟩) n c2] 43) g2))
      have Htv := Lib.hid htv
      have Hwv := Lib.hid hwv
      clear htv hwv
      by_cases q1 : tv < 0
      · go_wp2
        go_returns
        exact tally_mk (may_bad Hw.out hlt Htv.out Hwv.out (.inl q1)) (by simp) (by go_grown)
      · by_cases q2 : 2 < tv
        · go_wp2
          go_returns
          exact tally_mk (may_bad Hw.out hlt Htv.out Hwv.out (.inr (.inl q2))) (by simp) (by go_grown)
        · by_cases q3 : tv = 0
          · subst q3
            by_cases q4 : wv = 0
            · subst q4
              have H := Lib.hid (rel_next HK.out hr Htv.out Hwv.out (by omega))
              go_wp2
              go_roundw
              case rel => exact ⟨k + 1, by omega, by go_num, x + 1, y, z, by omega, by omega, by omega, by simpa using H.out, by simp⟩
              case measure => simp [intOf]; omega
            · have q5 : (wv != 0) = true := by simp [q4]
              have H := Lib.hid (may_bad Hw.out hlt Htv.out Hwv.out (.inr (.inr ⟨rfl, q4⟩)))
              go_wp2
              go_returns
              exact tally_mk H.out (by simp) (by go_grown)
          · have q4 : (tv == 0) = false := by simp [q3]
            have q6 : tv = 1 ∨ tv = 2 := by omega
            have H := Lib.hid (rel_next HK.out hr Htv.out Hwv.out (by omega))
            rcases q6 with rfl | rfl
            · go_wp2
              go_roundw
              case rel => exact ⟨k + 1, by omega, by go_num, x, y + 1, z, by omega, by omega, by omega, by simpa using H.out, by simp⟩
              case measure => simp [intOf]; omega
            · go_wp2
              go_roundw
              case rel => exact ⟨k + 1, by omega, by go_num, x, y, z + 1, by omega, by omega, by omega, by simpa using H.out, by simp⟩
              case measure => simp [intOf]; omega
    · obtain rfl : k = n := by omega
      obtain ⟨H1, H2, H3, H4⟩ := hr
      have E : ts.take k = ts := List.take_of_length_le (by rw [Ht.out]; omega)
      rw [E] at H2 H3 H4
      have H5 := Lib.hid H2
      have H6 := Lib.hid H3
      have H7 := Lib.hid H4
      clear E H2 H3 H4
      go_wp2
      go_returns
      exact tally_mk (may_done Hw.out Ht.out h0 h160 H1) (fun _ => ⟨by rw [H5.out], by rw [H6.out], by rw [H7.out]⟩) (by go_grown)

theorem tally_bad (a a' : Option Addr) (n c n' c' : Nat) (ws ts : List Int) (w : World) (hw : ws.length = n) (ht : ts.length = n') (h : ¬ (1 ≤ n ∧ n ≤ 160 ∧ n' = n)) :
    Calls Tryz.prog 97 #[.agg #[.slice a n c, .slice a' n' c']] w (TallyPost ws ts w) := by
  have hm : mayB ws ts = false := by simp [mayB, sizeB, hw, ht, h]
  have Hm := Lib.hid hm
  clear hm hw ht
  by_cases h1 : n < 1
  · have t0 : decide ((n : Int) < 1) = true := by simp; omega
    go_enter Tryz.func97, Tryz.ntmps97
    go_wp2
    go_returns
    exact tally_mk Hm.out (by simp) (by go_grown)
  · by_cases h2 : 160 < n
    · have t0 : decide ((n : Int) < 1) = false := by simp; omega
      have t1 : decide (160 < (n : Int)) = true := by simp; omega
      go_enter Tryz.func97, Tryz.ntmps97
      go_wp2
      go_returns
      exact tally_mk Hm.out (by simp) (by go_grown)
    · have t0 : decide ((n : Int) < 1) = false := by simp; omega
      have t1 : decide (160 < (n : Int)) = false := by simp; omega
      have t2 : ((n' : Int) != n) = true := by simp; omega
      go_enter Tryz.func97, Tryz.ntmps97
      go_wp2
      go_returns
      exact tally_mk Hm.out (by simp) (by go_grown)

theorem tally_any (a a' : Option Addr) (n c n' c' : Nat) (ws ts : List Int) (w : World) (S1 : Sl w a n ws) (S2 : Sl w a' n' ts) :
    Calls Tryz.prog 97 #[.agg #[.slice a n c, .slice a' n' c']] w (TallyPost ws ts w) := by
  by_cases h : 1 ≤ n ∧ n ≤ 160 ∧ n' = n
  · obtain ⟨h0, h1, rfl⟩ := h
    obtain ⟨hw, b1, o1, rfl, R1⟩ := sl_some S1 h0
    obtain ⟨ht, b2, o2, rfl, R2⟩ := sl_some S2 h0
    exact tally_good b1 o1 b2 o2 n' c c' ws ts w hw ht R1 R2 h0 h1
  · exact tally_bad a a' n c n' c' ws ts w S1.1 S2.1 h

end Go.Proofs.YtiebaeaomgpicaaGreat
/- Contracts of package memory: Right, Count, whyNotUsed, whyNotTaken, usable, Load. -/
namespace Go.Proofs.YtiebaeaomgpicaaGreat
open Go.ChangeShapes Go.WideShapes Go.ChangeAt Go.RowKit

theorem Right_any (a a' : Option Addr) (n c n' c' : Nat) (ws ts : List Int) (w : World) (S1 : Sl w a n ws) (S2 : Sl w a' n' ts) :
    Calls Tryz.prog 66 #[.agg #[.slice a n c, .slice a' n' c']] w fun e w' => e = .returned (.bool (mayB ws ts)) ∧ Below w.heap.size w w' := by
  go_enter Tryz.func66, Tryz.ntmps66
  go_wp2_with fail
  refine (tally_any a a' n c n' c' ws ts _ (slA _ S1) (slA _ S2)).mono ?_
  rintro e w1 ⟨x, y, z, rfl, -, hb⟩
  have hb1 : Below w.heap.size w w1 := below_from (by go_grown) hb
  go_wp2
  go_ret
  exact ⟨rfl, hb1.alloc hb1.size _⟩

theorem load_arr3 (w : World) (b : Nat) (x y z : Value) (k0 : w.cell? ⟨b, 0, none⟩ = some x) (k1 : w.cell? ⟨b, 1, none⟩ = some y) (k2 : w.cell? ⟨b, 2, none⟩ = some z) : (loadVar 142 ⟨b, 0, none⟩).run Tryz.prog w = .ok (.agg #[x, y, z]) w := by
  simp [go_sem, k0, k1, k2]
theorem whyNotUsed_any (t : Int) (w : World) (h0 : 0 ≤ t) (h2 : t ≤ 2) :
    Calls Tryz.prog 68 #[.int .i64 t] w fun e w' => e = .returned (.int .i64 (useE t)) ∧ Below w.heap.size w w' := by
  have h : t = 0 ∨ t = 1 ∨ t = 2 := by omega
  rcases h with rfl | rfl | rfl
  all_goals
    go_enter Tryz.func68, Tryz.ntmps68
    go_wp2
    go_ret
    exact ⟨rfl, by go_grown⟩
theorem whyNotTaken_any (t : Int) (w : World) (h0 : 0 ≤ t) (h2 : t ≤ 2) :
    Calls Tryz.prog 69 #[.int .i64 t] w fun e w' => e = .returned (.int .i64 (takeE t)) ∧ Below w.heap.size w w' := by
  have h : t = 0 ∨ t = 1 ∨ t = 2 := by omega
  rcases h with rfl | rfl | rfl
  all_goals
    go_enter Tryz.func69, Tryz.ntmps69
    go_wp2
    go_ret
    exact ⟨rfl, by go_grown⟩

theorem usable_any (a a' : Option Addr) (n c n' c' : Nat) (ws ts : List Int) (i : Int) (w : World) (S1 : Sl w a n ws) (S2 : Sl w a' n' ts) (hi : (Lit.int .i64 i).wf = true) :
    Calls Tryz.prog 92 #[.agg #[.slice a n c, .slice a' n' c'], .int .i64 i] w fun e w' => e = .returned (.int .i64 (usableZ ws ts i)) ∧ Below w.heap.size w w' := by
  have hb0 : -9223372036854775808 ≤ i ∧ i ≤ 9223372036854775807 := by simpa [Lit.wf, IntKind.min, IntKind.max, IntKind.signed, IntKind.bits] using hi
  have HB := Lib.hid hb0
  clear hb0
  cases hm : mayB ws ts with
  | false =>
    have Hm := Lib.hid hm
    clear hm
    go_enter Tryz.func92, Tryz.ntmps92
    go_wp2_with fail
    refine (Right_any a a' n c n' c' ws ts _ (slA _ S1) (slA _ S2)).mono ?_
    rintro e w1 ⟨rfl, hb⟩
    have hb1 : Below w.heap.size w w1 := below_from (by go_grown) hb
    rw [Hm.out]
    go_wp2
    go_ret
    exact ⟨ret_int (by simp [usableZ, Hm.out]), hb1⟩
  | true =>
    have Hm := Lib.hid hm
    obtain ⟨z0, z1, z2⟩ := mayB_size hm
    have hn := S1.1
    have hn' := S2.1
    obtain rfl : n' = n := by omega
    obtain ⟨-, b1, o1, rfl, R1⟩ := sl_some S1 (by omega)
    obtain ⟨-, b2, o2, rfl, R2⟩ := sl_some S2 (by omega)
    have Hn := Lib.hid hn
    have Hn' := Lib.hid hn'
    have z3 : 1 ≤ n' := by omega
    have z4 : n' ≤ 160 := by omega
    clear hm z0 z1 z2 hn hn'
    go_enter Tryz.func92, Tryz.ntmps92
    go_wp2_with fail
    refine (Right_any _ _ n' c n' c' ws ts _ (slA _ S1) (slA _ S2)).mono ?_
    rintro e w1 ⟨rfl, hb⟩
    have hb1 : Below w.heap.size w w1 := below_from (by go_grown) hb
    obtain ⟨hc, hf⟩ := bcell hb
    have hs1 : w.heap.size < w1.heap.size := by have := hb.size; simp at this; omega
    rw [Hm.out]
    go_wp2_with fail
    refine (within_any _ _ n' c n' c' i 1 _ z4 HB.out.1 HB.out.2).mono ?_
    rintro e w2 ⟨rfl, hb'⟩
    have hb2 : Below w.heap.size w w2 := hb1.trans (hb'.mono (by omega))
    cases hin : withinB n' i 1 with
    | false =>
      have HE := Lib.hid (show (3 : Int) = usableZ ws ts i by
        have : ¬ (0 ≤ i ∧ i < ws.length) := by rw [Hn.out]; simp [withinB] at hin; omega
        rw [usableZ, if_pos Hm.out, if_neg this])
      clear hin
      go_wp2
      go_ret
      exact ⟨ret_int HE.out, hb2⟩
    | true =>
      have hi2 : 0 ≤ i ∧ i < n' := by simp [withinB] at hin; omega
      obtain ⟨hi0, hi1⟩ := hi2
      clear hin
      obtain ⟨k, rfl⟩ := Int.eq_ofNat_of_zero_le hi0
      have hk : k < n' := by omega
      have HE := Lib.hid (show useE (ts.getD k 0) = usableZ ws ts (k : Int) by
        rw [usableZ, if_pos Hm.out, if_pos ⟨by omega, by rw [Hn.out]; omega⟩]; simp)
      have ht := mayB_tag Hm.out k (by rw [Hn.out]; exact hk)
      have g2 := rowB hb2 R2 k (by rw [Hn'.out]; exact hk)
      generalize ts.getD k 0 = tv at HE ht g2
      obtain ⟨ht0, ht2⟩ := ht
      obtain ⟨hc', hf'⟩ := bcell hb'
      go_wp2_with fail
      refine (whyNotUsed_any _ _ ht0 ht2).mono ?_
      rintro e w3 ⟨rfl, hb''⟩
      have hb3 : Below w.heap.size w w3 := hb2.trans (hb''.mono hb2.size)
      go_wp2
      go_ret
      exact ⟨ret_int HE.out, hb3⟩

theorem Load_any (a a' : Option Addr) (n c n' c' : Nat) (ws ts : List Int) (i : Int) (w : World) (S1 : Sl w a n ws) (S2 : Sl w a' n' ts) (hi : (Lit.int .i64 i).wf = true) :
    Calls Tryz.prog 61 #[.agg #[.slice a n c, .slice a' n' c'], .int .i64 i] w fun e w' => e = .returned (.tuple #[.int .i64 (loadZ ws ts i), .int .i64 (usableZ ws ts i)]) ∧ Below w.heap.size w w' := by
  by_cases he : usableZ ws ts i = 0
  · obtain ⟨hm, h0, h1, h2⟩ := usable_zero he
    obtain ⟨z0, z1, z2⟩ := mayB_size hm
    have hn := S1.1
    have hn' := S2.1
    obtain rfl : n' = n := by omega
    obtain ⟨-, b1, o1, rfl, R1⟩ := sl_some S1 (by omega)
    have Hn := Lib.hid hn
    have z3 : 1 ≤ n' := by omega
    have hlt : i < n' := by omega
    have HE := Lib.hid he
    have HW := Lib.hid hi
    clear hm z0 z1 z2 hn hn' h1 h2 he hi
    obtain ⟨k, rfl⟩ := Int.eq_ofNat_of_zero_le h0
    have hk : k < n' := by omega
    have HV := Lib.hid (show ws.getD k 0 = loadZ ws ts (k : Int) by rw [loadZ, if_pos HE.out]; simp)
    go_enter Tryz.func61, Tryz.ntmps61
    go_wp2_with fail
    refine (usable_any _ _ n' c n' c' ws ts _ _ (slA _ S1) (slA _ S2) HW.out).mono ?_
    rintro e w1 ⟨rfl, hb⟩
    have hb1 : Below w.heap.size w w1 := below_from (by go_grown) hb
    obtain ⟨hc, hf⟩ := bcell hb
    have g1 := rowB hb1 R1 k (by rw [Hn.out]; exact hk)
    generalize ws.getD k 0 = wv at HV g1
    rw [HE.out]
    go_wp2
    go_ret2
    exact ⟨ret_two HV.out HE.out.symm, hb1⟩
  · have HE := Lib.hid (show (usableZ ws ts i != 0) = true by simpa using he)
    have HV := Lib.hid (show loadZ ws ts i = 0 by rw [loadZ, if_neg he])
    have HW := Lib.hid hi
    clear he hi
    go_enter Tryz.func61, Tryz.ntmps61
    go_wp2_with fail
    refine (usable_any _ _ n c n' c' ws ts _ _ (slA _ S1) (slA _ S2) HW.out).mono ?_
    rintro e w1 ⟨rfl, hb⟩
    have hb1 : Below w.heap.size w w1 := below_from (by go_grown) hb
    have HE' := HE.out
    obtain ⟨ev, hev⟩ : ∃ ev, usableZ ws ts i = ev := ⟨_, rfl⟩
    have HX := Lib.hid hev
    rw [hev] at HE' ⊢
    clear hev
    go_wp2
    go_ret2
    exact ⟨ret_two HV.out.symm HX.out.symm, hb1⟩
end Go.Proofs.YtiebaeaomgpicaaGreat
/- Contracts of package memory: New, copied, Store. -/
namespace Go.Proofs.YtiebaeaomgpicaaGreat
open Go.ChangeShapes Go.WideShapes Go.ChangeAt Go.RowKit

/-- a memory and an error: the memory reads as the two lists -/
def MemRet (ws ts : List Int) (x : Int) (w : World) (e : Ending) (w' : World) : Prop :=
  ∃ a n c a' n' c', e = .returned (.tuple #[.agg #[.slice a n c, .slice a' n' c'], .int .i64 x]) ∧ SlF w.heap.size w' a n ws ∧ SlF w.heap.size w' a' n' ts ∧ Below w.heap.size w w'
theorem memRet_nil {x : Int} {w w' : World} (hb : Below w.heap.size w w') : MemRet [] [] x w (.returned (.tuple #[.agg #[.slice none 0 0, .slice none 0 0], .int .i64 x])) w' :=
  ⟨_, _, _, _, _, _, rfl, slF_nil _ _, slF_nil _ _, hb⟩
theorem memRet_rows {x : Int} {w w' : World} {p q n m c c' : Nat} {ws ts : List Int} (hw : ws.length = n) (ht : ts.length = m) {t t' : TypeId} {fr fr' : Nat × Nat} (hp : w.heap.size ≤ p) (hq : w.heap.size ≤ q) (h1 : w'.heap[p]? = some (.cells (Ir ws) t fr)) (h2 : w'.heap[q]? = some (.cells (Ir ts) t' fr')) (hb : Below w.heap.size w w') :
    MemRet ws ts x w (.returned (.tuple #[.agg #[.slice (some ⟨p, 0, none⟩) n c, .slice (some ⟨q, 0, none⟩) m c'], .int .i64 x])) w' :=
  ⟨_, _, _, _, _, _, rfl, ⟨hw, .inr ⟨_, _, rfl, hp, row_heap h1⟩⟩, ⟨ht, .inr ⟨_, _, rfl, hq, row_heap h2⟩⟩, hb⟩

set_option maxHeartbeats 2000000 in
theorem New_any (n : Int) (w : World) :
    Calls Tryz.prog 37 #[.int .i64 n] w (MemRet (newL n) (newL n) (newE n) w) := by
  by_cases h : 1 ≤ n ∧ n ≤ 160
  · obtain ⟨h0, h1⟩ := h
    have HE := Lib.hid (show newE n = 0 by rw [newE, if_pos ⟨h0, h1⟩])
    obtain ⟨k, rfl⟩ := Int.eq_ofNat_of_zero_le (show 0 ≤ n by omega)
    have HL := Lib.hid (show newL (k : Int) = List.replicate k 0 by rw [newL, if_pos ⟨h0, h1⟩]; simp)
    have t0 : decide ((k : Int) < 1) = false := by simp; omega
    have t1 : decide (160 < (k : Int)) = false := by simp; omega
    have hmk := make_ints k (by omega)
    rw [HE.out, HL.out]
    have HZ := Lib.hid (Zr_eq k)
    have HN := Lib.hid (show (List.replicate k (0 : Int)).length = k by simp)
    generalize List.replicate k (0 : Int) = zs at HZ HN ⊢
    clear HL HE h0 h1
    go_enter Tryz.func37, Tryz.ntmps37
    go_wp2
    go_region
    all_goals
      rw [HZ.out]
      go_wp2
      refine bp_cell_tmp ⟨w.heap.size, 0, none⟩ rfl rfl rfl (load_mem _ _ _ _ (cellA _ (cellA _ (by simp; rfl))) (cellA _ (cellA _ (by simp; rfl)))) ?_
      refine memRet_rows HN.out HN.out (t := 3) (t' := 3) (fr := (0, 0)) (fr' := (0, 0)) (by omega) (by omega) ?_ ?_ (by go_grown)
      all_goals
        try rw [heap_drew]
        first | (rw [heap_new]; case hg => (simp; done)) | ((rw [heap_old]; case hg => (simp; done)); (rw [heap_new]; case hg => (simp; done)))
  · have HE := Lib.hid (show newE n = 2 by rw [newE, if_neg h])
    have HL := Lib.hid (show newL n = [] by rw [newL, if_neg h])
    rw [HE.out, HL.out]
    by_cases h0 : n < 1
    · have t0 : decide (n < 1) = true := by simpa using h0
      clear h h0
      go_enter Tryz.func37, Tryz.ntmps37
      go_wp2
      refine bp_cell_tmp ⟨w.heap.size, 0, none⟩ rfl rfl rfl (load_mem _ _ _ _ (by simp; rfl) (by simp; rfl)) ?_
      exact memRet_nil (by go_grown)
    · have t0 : decide (n < 1) = false := by simp; omega
      have t1 : decide (160 < n) = true := by simp; omega
      clear h h0
      go_enter Tryz.func37, Tryz.ntmps37
      go_wp2
      refine bp_cell_tmp ⟨w.heap.size, 0, none⟩ rfl rfl rfl (load_mem _ _ _ _ (by simp; rfl) (by simp; rfl)) ?_
      exact memRet_nil (by go_grown)

def CopyPost (n : Nat) (ws ts : List Int) (w : World) (e : Ending) (w' : World) : Prop :=
  ∃ p q : Nat, e = .returned (.agg #[.slice (some ⟨p, 0, none⟩) n n, .slice (some ⟨q, 0, none⟩) n n]) ∧ p ≠ q ∧ w.heap.size ≤ p ∧ w.heap.size ≤ q ∧ w'.heap[p]? = some (.cells (Ir ws) 3) ∧ w'.heap[q]? = some (.cells (Ir ts) 3) ∧ Below w.heap.size w w'

set_option maxRecDepth 100000 in
set_option maxHeartbeats 4000000 in
theorem copied_good (b1 o1 b2 o2 n c1 c2 : Nat) (ws ts : List Int) (w : World) (hw : ws.length = n) (ht : ts.length = n) (R1 : Row w b1 o1 ws) (R2 : Row w b2 o2 ts) (h160 : n ≤ 160) :
    Calls Tryz.prog 70 #[.agg #[.slice (some ⟨b1, o1, none⟩) n c1, .slice (some ⟨b2, o2, none⟩) n c2]] w (CopyPost n ws ts w) := by
  have hmk := make_ints n (by omega)
  have Hw := Lib.hid hw
  have Ht := Lib.hid ht
  clear hw ht
  go_enter Tryz.func70, Tryz.ntmps70
  go_wp2
  go_region
  all_goals clear hmk
  all_goals
    go_wp2_with fail
    rw [copy_ints _ _ _ _ _ _ _ _ ws Hw.out (by rw [heap_drew]; first | (rw [heap_new]; case hg => (simp; done)) | ((rw [heap_old]; case hg => (simp; done)); (rw [heap_new]; case hg => (simp; done))) | ((rw [heap_old]; case hg => (simp; done)); (rw [heap_old]; case hg => (simp; done)); (rw [heap_new]; case hg => (simp; done)))) (rowD (rowA _ (rowA _ (rowA _ (rowA _ (rowA _ R1))))))]
    rw [setRow_drew]; first | (rw [setRow_new]; case hg => (simp; done)) | ((rw [setRow_old]; case hg => (simp; done)); (rw [setRow_new]; case hg => (simp; done))) | ((rw [setRow_old]; case hg => (simp; done)); (rw [setRow_old]; case hg => (simp; done)); (rw [setRow_new]; case hg => (simp; done)))
    go_wp2_with fail
    rw [copy_ints _ _ _ _ _ _ _ _ ts Ht.out (by rw [heap_drew]; first | (rw [heap_new]; case hg => (simp; done)) | ((rw [heap_old]; case hg => (simp; done)); (rw [heap_new]; case hg => (simp; done))) | ((rw [heap_old]; case hg => (simp; done)); (rw [heap_old]; case hg => (simp; done)); (rw [heap_new]; case hg => (simp; done)))) (rowD (rowA _ (rowA _ (rowA _ (rowA _ (rowA _ R2))))))]
    rw [setRow_drew]; first | (rw [setRow_new]; case hg => (simp; done)) | ((rw [setRow_old]; case hg => (simp; done)); (rw [setRow_new]; case hg => (simp; done))) | ((rw [setRow_old]; case hg => (simp; done)); (rw [setRow_old]; case hg => (simp; done)); (rw [setRow_new]; case hg => (simp; done)))
    go_wp2_with fail
    go_returns
    exact ⟨_, _, rfl, by omega, by omega, by omega, (by rw [heap_drew]; first | (rw [heap_new]; case hg => (simp; done)) | ((rw [heap_old]; case hg => (simp; done)); (rw [heap_new]; case hg => (simp; done))) | ((rw [heap_old]; case hg => (simp; done)); (rw [heap_old]; case hg => (simp; done)); (rw [heap_new]; case hg => (simp; done)))), (by rw [heap_drew]; first | (rw [heap_new]; case hg => (simp; done)) | ((rw [heap_old]; case hg => (simp; done)); (rw [heap_new]; case hg => (simp; done))) | ((rw [heap_old]; case hg => (simp; done)); (rw [heap_old]; case hg => (simp; done)); (rw [heap_new]; case hg => (simp; done)))), by go_grown⟩

theorem cell_row {w : World} {b k : Nat} {zs : List Int} {t : TypeId} {fr : Nat × Nat} (h : w.heap[b]? = some (.cells (Ir zs) t fr)) (hk : k < zs.length) : w.cell? ⟨b, k, none⟩ = some (.int .i64 (zs.getD k 0)) := by
  simp only [World.cell?, h]
  simpa using Ir_get zs k hk
theorem set_row {w : World} {b k : Nat} {zs : List Int} {t : TypeId} {fr : Nat × Nat} {v : Int} (h : w.heap[b]? = some (.cells (Ir zs) t fr)) : (w.setCell ⟨b, k, none⟩ (.int .i64 v)).heap[b]? = some (.cells (Ir (zs.set k v)) t fr) := by
  have hb : b < w.heap.size := (Array.getElem?_eq_some_iff.1 h).1
  simp only [World.setCell, Array.getElem?_modify, ↓reduceIte, h, Option.map_some]
  simp [Ir_set]
theorem heap_lt {w : World} {b : Nat} {o : Obj} (h : w.heap[b]? = some o) : b < w.heap.size := (Array.getElem?_eq_some_iff.1 h).1

set_option maxHeartbeats 4000000 in
theorem Store_any (a a' : Option Addr) (n c n' c' : Nat) (ws ts : List Int) (i v : Int) (w : World) (S1 : Sl w a n ws) (S2 : Sl w a' n' ts) (hi : (Lit.int .i64 i).wf = true) :
    Calls Tryz.prog 91 #[.agg #[.slice a n c, .slice a' n' c'], .int .i64 i, .int .i64 v] w (MemRet (storeW ws ts i v) (storeT ws ts i) (usableZ ws ts i) w) := by
  by_cases he : usableZ ws ts i = 0
  · obtain ⟨hm, h0, h1, h2⟩ := usable_zero he
    obtain ⟨z0, z1, z2⟩ := mayB_size hm
    have hn := S1.1
    have hn' := S2.1
    obtain rfl : n' = n := by omega
    obtain ⟨-, b1, o1, rfl, R1⟩ := sl_some S1 (by omega)
    obtain ⟨-, b2, o2, rfl, R2⟩ := sl_some S2 (by omega)
    have Hn := Lib.hid hn
    have Hn' := Lib.hid hn'
    have z3 : 1 ≤ n' := by omega
    have z4 : n' ≤ 160 := by omega
    have hlt : i < n' := by omega
    have HE := Lib.hid he
    have HW := Lib.hid hi
    have H1 := Lib.hid (show storeW ws ts i v = ws.set i.toNat v by rw [storeW, if_pos he])
    have H2 := Lib.hid (show storeT ws ts i = ts by rw [storeT, if_pos he])
    clear hm z0 z1 z2 hn hn' h1 h2 he hi
    rw [H1.out, H2.out, HE.out]
    clear H1 H2
    obtain ⟨k, rfl⟩ := Int.eq_ofNat_of_zero_le h0
    have hk : k < n' := by omega
    rw [Int.toNat_natCast]
    go_enter Tryz.func91, Tryz.ntmps91
    go_wp2_with fail
    refine (usable_any _ _ n' c n' c' ws ts _ _ (slA _ (slA _ S1)) (slA _ (slA _ S2)) HW.out).mono ?_
    rintro e w1 ⟨rfl, hb⟩
    have hb1 : Below w.heap.size w w1 := below_from (by go_grown) hb
    obtain ⟨hc, hf⟩ := bcell hb
    have hs1 : w.heap.size + 1 < w1.heap.size := by have := hb.size; simp at this; omega
    rw [HE.out]
    go_wp2_with fail
    refine (copied_good b1 o1 b2 o2 n' c c' ws ts _ Hn.out Hn'.out (rowB hb1 R1) (rowB hb1 R2) z4).mono ?_
    rintro e w2 ⟨p, q, rfl, hpq, hp, hq, hhp, hhq, hb'⟩
    have hb2 : Below w.heap.size w w2 := hb1.trans (hb'.mono hb1.size)
    obtain ⟨hc', hf'⟩ := bcell hb'
    have hs2 : w.heap.size + 1 < w2.heap.size := by have := hb'.size; omega
    have hp2 := heap_lt hhp
    have hq2 := heap_lt hhq
    have Hp := Lib.hid hhp
    have Hq := Lib.hid hhq
    have g1 : (w2.alloc (.cells #[.slice (some ⟨p, 0, none⟩) n' n', .slice (some ⟨q, 0, none⟩) n' n'] 43)).cell? ⟨p, k, none⟩ = some (.int .i64 (ws.getD k 0)) := cellA _ (cell_row hhp (by rw [Hn.out]; exact hk))
    have g2 : (w2.alloc (.cells #[.slice (some ⟨p, 0, none⟩) n' n', .slice (some ⟨q, 0, none⟩) n' n'] 43)).frozen? ⟨p, k, none⟩ = false := free_row (by rw [heap_old _ _ _ hp2]; exact hhp)
    generalize ws.getD k 0 = wv at g1
    clear hhp hhq
    have g3 : w2.cell? ⟨w.heap.size + 1, 0, none⟩ = some (.slice none 0 0) := by rw [hc' _ _ (by omega), hc _ _ (by simp)]; simp
    have g4 : w2.cell? ⟨w.heap.size + 1, 1, none⟩ = some (.slice none 0 0) := by rw [hc' _ _ (by omega), hc _ _ (by simp)]; simp
    go_wp2_with fail
    refine bp_cell_tmp ⟨w.heap.size + 1, 0, none⟩ rfl rfl rfl (load_mem _ _ _ _ (cellA _ (by go_cell_look)) (cellA _ (by go_cell_look))) ?_
    refine memRet_rows (t := 3) (t' := 3) (fr := (0, 0)) (fr' := (0, 0)) (by rw [List.length_set, Hn.out]) Hn'.out (by omega) (by omega) ?_ ?_ (by go_grown)
    · rw [heap_old _ _ _ (by simp; omega), Below.heap_setCell _ _ _ _ (by simp; omega), Below.heap_setCell _ _ _ _ (by simp; omega)]
      exact set_row Hp.out
    · rw [heap_old _ _ _ (by simp; omega), Below.heap_setCell _ _ _ _ (by simp; omega), Below.heap_setCell _ _ _ _ (by simp; omega), Below.heap_setCell _ _ _ _ (by simp; omega)]
      exact Hq.out
  · have HE := Lib.hid (show (usableZ ws ts i != 0) = true by simpa using he)
    have H1 := Lib.hid (show storeW ws ts i v = [] by rw [storeW, if_neg he])
    have H2 := Lib.hid (show storeT ws ts i = [] by rw [storeT, if_neg he])
    have HW := Lib.hid hi
    clear he hi
    rw [H1.out, H2.out]
    obtain ⟨ev, hev⟩ : ∃ ev, usableZ ws ts i = ev := ⟨_, rfl⟩
    have HX := Lib.hid hev
    have HE' := HE.out
    rw [hev] at HE' ⊢
    clear hev HE
    go_enter Tryz.func91, Tryz.ntmps91
    go_wp2_with fail
    refine (usable_any _ _ n c n' c' ws ts _ _ (slA _ (slA _ S1)) (slA _ (slA _ S2)) HW.out).mono ?_
    rintro e w1 ⟨rfl, hb⟩
    have hb1 : Below w.heap.size w w1 := below_from (by go_grown) hb
    obtain ⟨hc, hf⟩ := bcell hb
    have hs1 : w.heap.size + 1 < w1.heap.size := by have := hb.size; simp at this; omega
    have g3 : w1.cell? ⟨w.heap.size + 1, 0, none⟩ = some (.slice none 0 0) := by rw [hc _ _ (by simp)]; simp
    have g4 : w1.cell? ⟨w.heap.size + 1, 1, none⟩ = some (.slice none 0 0) := by rw [hc _ _ (by simp)]; simp
    rw [HX.out]
    go_wp2
    refine bp_cell_tmp ⟨w.heap.size + 1, 0, none⟩ rfl rfl rfl (load_mem _ _ _ _ (by go_cell_look) (by go_cell_look)) ?_
    exact memRet_nil (by go_grown)
end Go.Proofs.YtiebaeaomgpicaaGreat
/- The contract of package memory's Mark. -/
namespace Go.Proofs.YtiebaeaomgpicaaGreat
open Go.ChangeShapes Go.WideShapes Go.ChangeAt Go.RowKit

/-- of the blocks that there were, only q may have been written -/
structure Only (q : Nat) (w w' : World) : Prop where
  os : w'.os = w.os
  tape : w'.tape = w.tape
  output : w'.output = w.output
  size : w.heap.size ≤ w'.heap.size
  block : ∀ k, k < w.heap.size → k ≠ q → w'.heap[k]? = w.heap[k]?
theorem Only.refl (q : Nat) (w : World) : Only q w w := ⟨rfl, rfl, rfl, Nat.le_refl _, fun _ _ _ => rfl⟩
theorem Only.below {q : Nat} {w a b : World} (h : Only q w a) (h' : Below a.heap.size a b) : Only q w b :=
  ⟨h'.os.trans h.os, h'.tape.trans h.tape, h'.output.trans h.output, Nat.le_trans h.size h'.size, fun k hk hq => by rw [h'.block k (by have := h.size; omega), h.block k hk hq]⟩
theorem Only.set {q : Nat} {w a : World} (h : Only q w a) (p : Addr) (hp : p.block = q) (v : Value) : Only q w (a.setCell p v) :=
  ⟨h.os, h.tape, h.output, by simpa using h.size, fun k hk hq => by rw [Below.heap_setCell _ _ _ _ (by omega), h.block k hk hq]⟩
theorem Only.cell {q : Nat} {w a : World} {p : Addr} {v : Value} (h : Only q w a) (hp : p.block ≠ q) (hc : w.cell? p = some v) : a.cell? p = some v := by
  rw [World.cell?_of_block (w := w) (h.block _ (cell_lt hc) hp)]; exact hc
theorem Only.to_below {q : Nat} {w0 w a : World} (h : Only q w a) (hb : Below w0.heap.size w0 w) (hq : w0.heap.size ≤ q) : Below w0.heap.size w0 a :=
  hb.trans ⟨h.os, h.tape, h.output, h.size, fun k hk => h.block k (by have := hb.size; omega) (by omega)⟩

def MarkRel (ws ts : List Int) (i : Nat) (tag : Int) (p q : Nat) (W : World) (j : Nat) (wr : World) : Prop :=
  scanE (refE tag) ts i j = 0 ∧ Only q W wr ∧ wr.heap[p]? = some (.cells (Ir ws) 3) ∧ wr.heap[q]? = some (.cells (Ir (setR ts i tag j)) 3)

theorem Only.frozen {q : Nat} {w a : World} {p : Addr} {v : Value} (h : Only q w a) (hp : p.block ≠ q) (hc : w.cell? p = some v) : a.frozen? p = w.frozen? p :=
  World.frozen?_of_block (w := w) (h.block _ (cell_lt hc) hp)
theorem frozenA {w : World} {a : Addr} {v : Value} (o : Obj) (h : w.cell? a = some v) : (w.alloc o).frozen? a = w.frozen? a :=
  World.frozen?_of_block (w := w) (heap_old w o _ (cell_lt h))
theorem rel_go {ws ts : List Int} {i : Nat} {tag : Int} {p q : Nat} {W wr w' : World} {j : Nat} (h : MarkRel ws ts i tag p q W j wr) (hpq : p ≠ q) (hb : Below wr.heap.size wr w') (he : refE tag (ts.getD (i + j) 0) = 0) :
    MarkRel ws ts i tag p q W (j + 1) (w'.setCell ⟨q, i + j, none⟩ (.int .i64 tag)) := by
  obtain ⟨h1, h2, h3, h4⟩ := h
  refine ⟨by simp only [scanE]; rw [if_pos h1, he], (h2.below hb).set _ rfl _, ?_, ?_⟩
  · rw [Below.heap_setCell _ _ _ _ hpq, hb.block _ (heap_lt h3)]; exact h3
  · exact set_row (by rw [hb.block _ (heap_lt h4)]; exact h4)
theorem mark_stop {ws ts : List Int} {i k j : Nat} {tag : Int} (hm : mayB ws ts = true) (hw : withinB ws.length i k = true) (ht : tag = 1 ∨ tag = 2) (hj : j < k) (h : scanE (refE tag) ts i j = 0) (he : refE tag (ts.getD (i + j) 0) ≠ 0) :
    markE ws ts i k tag = refE tag (ts.getD (i + j) 0) ∧ markW ws ts i k tag = [] ∧ markT ws ts i k tag = [] := by
  have e : markE ws ts i k tag = refE tag (ts.getD (i + j) 0) := by
    rw [markE, if_pos ⟨hm, ht⟩, if_pos hw]
    exact scanE_first h rfl he (by simpa using hj)
  exact ⟨e, by rw [markW, if_neg (by rw [e]; exact he)], by rw [markT, if_neg (by rw [e]; exact he)]⟩
theorem mark_done {ws ts : List Int} {i k : Nat} {tag : Int} (hm : mayB ws ts = true) (hw : withinB ws.length i k = true) (ht : tag = 1 ∨ tag = 2) (h : scanE (refE tag) ts i k = 0) :
    markE ws ts i k tag = 0 ∧ markW ws ts i k tag = ws ∧ markT ws ts i k tag = setR ts i tag k := by
  have e : markE ws ts i k tag = 0 := by
    rw [markE, if_pos ⟨hm, ht⟩, if_pos hw]; simpa using h
  exact ⟨e, by rw [markW, if_pos e], by rw [markT, if_pos e]; simp⟩

theorem refE_call (tag t : Int) (w : World) (f : Nat) (hf : (tag = 1 ∧ f = 69) ∨ (tag = 2 ∧ f = 68)) (h0 : 0 ≤ t) (h2 : t ≤ 2) :
    Calls Tryz.prog f #[.int .i64 t] w fun e w' => e = .returned (.int .i64 (refE tag t)) ∧ Below w.heap.size w w' := by
  rcases hf with ⟨rfl, rfl⟩ | ⟨rfl, rfl⟩
  · exact whyNotTaken_any t w h0 h2
  · exact whyNotUsed_any t w h0 h2

set_option maxHeartbeats 4000000 in
theorem Mark_loop (b1 o1 b2 o2 n c c' : Nat) (ws ts : List Int) (i k : Nat) (tag : Int) (f : Nat) (hf : (tag = 1 ∧ f = 69) ∨ (tag = 2 ∧ f = 68)) (w : World)
    (S1 : Sl w (some ⟨b1, o1, none⟩) n ws) (S2 : Sl w (some ⟨b2, o2, none⟩) n ts) (hn : ws.length = n) (hn' : ts.length = n) (R1 : Row w b1 o1 ws) (R2 : Row w b2 o2 ts) (hm : mayB ws ts = true) (hk : 1 ≤ k) (hik : i + k ≤ n) (z4 : n ≤ 160) :
    Calls Tryz.prog 38 #[.agg #[.slice (some ⟨b1, o1, none⟩) n c, .slice (some ⟨b2, o2, none⟩) n c'], .int .i64 i, .int .i64 k, .int .i64 tag] w (MemRet (markW ws ts i k tag) (markT ws ts i k tag) (markE ws ts i k tag) w) := by
  have Hn := Lib.hid hn
  have Hn' := Lib.hid hn'
  have Hm := Lib.hid hm
  have HT := Lib.hid (fun j (hj : j < ts.length) => mayB_tag hm j (by rw [Hn.out, ← Hn'.out]; exact hj))
  have HI : withinB n i k = true := by simp [withinB]; omega
  have HI' := Lib.hid HI
  clear hn hn' hm HI
  have HG : Hid (tag = 1 ∨ tag = 2) := hf.imp (fun h => h.1) (fun h => h.1)
  have b0 : (tag = 1 ∧ (tag != 1) = false ∧ (tag == 1) = true ∧ f = 69) ∨ (tag = 2 ∧ (tag != 1) = true ∧ (tag != 2) = false ∧ (tag == 1) = false ∧ f = 68) := by
    rcases hf with ⟨rfl, rfl⟩ | ⟨rfl, rfl⟩ <;> simp
  clear hf
  rcases b0 with ⟨h1, b1', b2', rfl⟩ | ⟨h1, b1', b2', b3', rfl⟩
  all_goals
    have HF := Lib.hid h1
    clear h1
    go_enter Tryz.func38, Tryz.ntmps38
    go_wp2_with fail
    refine (Right_any _ _ n c n c' ws ts _ (slA _ (slA _ S1)) (slA _ (slA _ S2))).mono ?_
    rintro e w1 ⟨rfl, hb⟩
    have hb1 : Below w.heap.size w w1 := below_from (by go_grown) hb
    obtain ⟨hc, hfr⟩ := bcell hb
    have hs1 : w.heap.size + 1 < w1.heap.size := by have := hb.size; simp at this; omega
    rw [Hm.out]
    go_wp2_with fail
    refine (within_any _ _ n c n c' i k _ z4 (by omega) (by omega)).mono ?_
    rintro e w2 ⟨rfl, hb'⟩
    have hb2 : Below w.heap.size w w2 := hb1.trans (hb'.mono (by omega))
    obtain ⟨hc', hfr'⟩ := bcell hb'
    have hs2 : w.heap.size + 1 < w2.heap.size := by have := hb'.size; omega
    have hs0 : w.heap.size < w1.heap.size := by omega
    rw [HI'.out]
    go_wp2_with fail
    refine (copied_good b1 o1 b2 o2 n c c' ws ts _ Hn.out Hn'.out (rowB hb2 R1) (rowB hb2 R2) z4).mono ?_
    rintro e w3 ⟨p, q, rfl, hpq, hp, hq, hhp, hhq, hb''⟩
    have hb3 : Below w.heap.size w w3 := hb2.trans (hb''.mono hb2.size)
    have hs3 : w.heap.size + 1 < w3.heap.size := by have := hb''.size; omega
    have r0 : w3.cell? ⟨w.heap.size + 1, 0, none⟩ = some (.slice none 0 0) := by rw [hb''.cell (p := ⟨w.heap.size + 1, 0, none⟩) (by simp; omega), hc' _ _ (by omega), hc _ _ (by simp)]; simp
    have r1 : w3.cell? ⟨w.heap.size + 1, 1, none⟩ = some (.slice none 0 0) := by rw [hb''.cell (p := ⟨w.heap.size + 1, 1, none⟩) (by simp; omega), hc' _ _ (by omega), hc _ _ (by simp)]; simp
    have r2 : w3.cell? ⟨w.heap.size, 1, none⟩ = some (.slice (some ⟨b2, o2, none⟩) n c') := by rw [hb''.cell (p := ⟨w.heap.size, 1, none⟩) (by simp; omega), hc' _ _ (by omega), hc _ _ (by simp; omega)]; simp
    have r3 : w3.frozen? ⟨w.heap.size + 1, 0, none⟩ = false := by rw [hb''.frozen (p := ⟨w.heap.size + 1, 0, none⟩) (by simp; omega), hfr' _ _ (by omega), hfr _ _ (by simp)]; exact free_row (heap_new _ _ _ (by simp))
    have r4 : w3.frozen? ⟨w.heap.size + 1, 1, none⟩ = false := by rw [hb''.frozen (p := ⟨w.heap.size + 1, 1, none⟩) (by simp; omega), hfr' _ _ (by omega), hfr _ _ (by simp)]; exact free_row (heap_new _ _ _ (by simp))
    have hp3 := heap_lt hhp
    have hq3 := heap_lt hhq
    have Hp := Lib.hid hhp
    have Hq := Lib.hid hhq
    have Rt := rowB hb3 R2
    clear hc hfr hc' hfr' hhp hhq
    have m0 := cellA (Obj.cells #[.slice (some ⟨p, 0, none⟩) n n, .slice (some ⟨q, 0, none⟩) n n] 43) r0
    have m1 := cellA (Obj.cells #[.slice (some ⟨p, 0, none⟩) n n, .slice (some ⟨q, 0, none⟩) n n] 43) r1
    have m2 := cellA (Obj.cells #[.slice (some ⟨p, 0, none⟩) n n, .slice (some ⟨q, 0, none⟩) n n] 43) r2
    have m3 : (w3.alloc (Obj.cells #[.slice (some ⟨p, 0, none⟩) n n, .slice (some ⟨q, 0, none⟩) n n] 43)).cell? ⟨w3.heap.size, 0, none⟩ = some (.slice (some ⟨p, 0, none⟩) n n) := by simp
    have m4 : (w3.alloc (Obj.cells #[.slice (some ⟨p, 0, none⟩) n n, .slice (some ⟨q, 0, none⟩) n n] 43)).cell? ⟨w3.heap.size, 1, none⟩ = some (.slice (some ⟨q, 0, none⟩) n n) := by simp
    have M0 := Lib.hid m0
    have M1 := Lib.hid m1
    have M2 := Lib.hid m2
    have M3 := Lib.hid m3
    have M4 := Lib.hid m4
    have MF0 := Lib.hid ((frozenA (Obj.cells #[.slice (some ⟨p, 0, none⟩) n n, .slice (some ⟨q, 0, none⟩) n n] 43) r0).trans r3)
    have MF1 := Lib.hid ((frozenA (Obj.cells #[.slice (some ⟨p, 0, none⟩) n n, .slice (some ⟨q, 0, none⟩) n n] 43) r1).trans r4)
    have MR := Lib.hid (rowA (Obj.cells #[.slice (some ⟨p, 0, none⟩) n n, .slice (some ⟨q, 0, none⟩) n n] 43) Rt)
    have MP := Lib.hid ((heap_old w3 (Obj.cells #[.slice (some ⟨p, 0, none⟩) n n, .slice (some ⟨q, 0, none⟩) n n] 43) p hp3).trans Hp.out)
    have MQ := Lib.hid ((heap_old w3 (Obj.cells #[.slice (some ⟨p, 0, none⟩) n n, .slice (some ⟨q, 0, none⟩) n n] 43) q hq3).trans Hq.out)
    have hb4 : Below w.heap.size w (w3.alloc (Obj.cells #[.slice (some ⟨p, 0, none⟩) n n, .slice (some ⟨q, 0, none⟩) n n] 43)) := hb3.alloc hb3.size _
    have hqw : w.heap.size + 1 < q := by have := hb'.size; omega
    have hpw : w.heap.size + 1 < p := by have := hb'.size; omega
    have hb2w : b2 < w.heap.size := cell_lt (R2 0 (by rw [Hn'.out]; omega))
    clear m0 m1 m2 m3 m4 r0 r1 r2 r3 r4 Rt hb'' hb3 hb' hb2 hb hb1 hs0 hs1 hs2
    go_wp2_with fail
    obtain ⟨W, hW⟩ : ∃ W, W = w3.alloc (Obj.cells #[.slice (some ⟨p, 0, none⟩) n n, .slice (some ⟨q, 0, none⟩) n n] 43) := ⟨_, rfl⟩
    have hWs : W.heap.size = w3.heap.size + 1 := by rw [hW]; simp
    rw [← hW] at M0 M1 M2 M3 M4 MF0 MF1 MR MP MQ hb4 ⊢
    clear hW
    go_loopw [12] (fun s wr => ∃ j : Nat, j ≤ k ∧ s = .int .i64 ((i + j : Nat) : Int) ∧ Hid (MarkRel ws ts i tag p q W j wr)) (fun s _ => i + k - (intOf s).toNat)
    case atStart => exact ⟨0, by omega, rfl, rfl, Only.refl _ _, MP.out, MQ.out⟩
    case round =>
      obtain ⟨j, hj, rfl, hr⟩ := hrel
      have ho := hr.out.2.1
      have n2 := ho.cell (by simp; omega) M2.out
      have n3 := ho.cell (by simp; omega) M3.out
      have n4 := ho.cell (by simp; omega) M4.out
      have n0 := ho.cell (by simp; omega) M0.out
      have n1 := ho.cell (by simp; omega) M1.out
      have nf0 := (ho.frozen (by simp; omega) M0.out).trans MF0.out
      have nf1 := (ho.frozen (by simp; omega) M1.out).trans MF1.out
      have hsz := ho.size
      have hbw := ho.to_below hb4 (by omega)
      clear ho
      by_cases hlt : j < k
      · have hij : i + j < n := by omega
        have g1 := hr.out.2.1.cell (by simp; omega) (MR.out (i + j) (by rw [Hn'.out]; exact hij))
        have HT1 := HT.out (i + j) (by rw [Hn'.out]; exact hij)
        have HGO := Lib.hid (fun w' hb => rel_go (w' := w') hr.out hpq hb)
        have HST := Lib.hid (mark_stop (k := k) Hm.out (by rw [Hn.out]; exact HI'.out) HG.out hlt hr.out.1)
        have nq := cell_row (k := i + j) hr.out.2.2.2 (by rw [setR_length, Hn'.out]; exact hij)
        have nfq := free_row (k := i + j) hr.out.2.2.2
        generalize ts.getD (i + j) 0 = tv at g1 HT1 HGO HST
        generalize (setR ts i tag j).getD (i + j) 0 = ov at nq
        obtain ⟨T0, T2⟩ := HT1
        go_wp2_with fail
        refine (refE_call tag tv _ _ (by first | exact .inl ⟨HF.out, rfl⟩ | exact .inr ⟨HF.out, rfl⟩) T0 T2).mono ?_
        rintro e w5 ⟨rfl, hb5⟩
        have n0' := cellB hb5 n0
        have n1' := cellB hb5 n1
        have n4' := cellB hb5 n4
        have n3' := cellB hb5 n3
        have nq' := cellB hb5 nq
        have nf0' := (hb5.frozen (cell_lt n0)).trans nf0
        have nf1' := (hb5.frozen (cell_lt n1)).trans nf1
        have nfq' := (hb5.frozen (cell_lt nq)).trans nfq
        have hsz5 := hb5.size
        have hbw5 := below_from hbw hb5
        have HB5 := Lib.hid hb5
        clear n0 n1 n2 n3 n4 nf0 nf1 nq nfq g1 hb5
        by_cases hz : refE tag tv = 0
        · have HZ := Lib.hid hz
          have HR := Lib.hid (HGO.out _ HB5.out hz)
          rw [hz]
          clear hz
          go_wp2
          go_roundw
          case rel => exact ⟨j + 1, by omega, by go_num, HR.out⟩
          case measure => simp [intOf]; omega
        · have HZ := Lib.hid hz
          have hz' : (refE tag tv != 0) = true := by simpa using hz
          obtain ⟨x1, x2, x3⟩ := HST.out hz
          obtain ⟨ev, hev⟩ : ∃ ev, refE tag tv = ev := ⟨_, rfl⟩
          have HX := Lib.hid hev
          rw [hev] at x1
          have X1 := Lib.hid x1
          have X2 := Lib.hid x2
          have X3 := Lib.hid x3
          rw [hev] at hz' ⊢
          clear hz hev x1 x2 x3
          go_wp2
          refine bp_cell_tmp ⟨w.heap.size + 1, 0, none⟩ rfl rfl rfl (load_mem _ _ _ _ (by go_cell_look) (by go_cell_look)) ?_
          rw [X1.out, X2.out, X3.out]
          exact memRet_nil (by go_grown)
      · obtain rfl : j = k := by omega
        have HDN := Lib.hid (mark_done Hm.out (by rw [Hn.out]; exact HI'.out) HG.out hr.out.1)
        have hP := Lib.hid hr.out.2.2.1
        have hQ := Lib.hid hr.out.2.2.2
        go_wp2
        refine bp_cell_tmp ⟨w.heap.size + 1, 0, none⟩ rfl rfl rfl (load_mem _ _ _ _ (by go_cell_look) (by go_cell_look)) ?_
        rw [HDN.out.1, HDN.out.2.1, HDN.out.2.2]
        refine memRet_rows (t := 3) (t' := 3) (fr := (0, 0)) (fr' := (0, 0)) Hn.out (by rw [setR_length, Hn'.out]) (by omega) (by omega) ?_ ?_ (by go_grown)
        · rw [Below.heap_setCell _ _ _ _ (by simp; omega), Below.heap_setCell _ _ _ _ (by simp; omega)]
          exact hP.out
        · rw [Below.heap_setCell _ _ _ _ (by simp; omega), Below.heap_setCell _ _ _ _ (by simp; omega)]
          exact hQ.out

set_option maxHeartbeats 4000000 in
theorem Mark_any (a a' : Option Addr) (n c n' c' : Nat) (ws ts : List Int) (i k tag : Int) (w : World) (S1 : Sl w a n ws) (S2 : Sl w a' n' ts) (hi : (Lit.int .i64 i).wf = true) :
    Calls Tryz.prog 38 #[.agg #[.slice a n c, .slice a' n' c'], .int .i64 i, .int .i64 k, .int .i64 tag] w (MemRet (markW ws ts i k tag) (markT ws ts i k tag) (markE ws ts i k tag) w) := by
  have hb0 : -9223372036854775808 ≤ i ∧ i ≤ 9223372036854775807 := by simpa [Lit.wf, IntKind.min, IntKind.max, IntKind.signed, IntKind.bits] using hi
  have HB := Lib.hid hb0
  clear hb0 hi
  by_cases hm : mayB ws ts = true
  · by_cases ht : tag = 1 ∨ tag = 2
    · obtain ⟨z0, z1, z2⟩ := mayB_size hm
      have hn := S1.1
      have hn' := S2.1
      obtain rfl : n' = n := by omega
      obtain ⟨-, b1, o1, rfl, R1⟩ := sl_some S1 (by omega)
      obtain ⟨-, b2, o2, rfl, R2⟩ := sl_some S2 (by omega)
      by_cases hw : withinB n' i k = true
      · simp only [withinB, decide_eq_true_eq] at hw
        obtain ⟨i, rfl⟩ := Int.eq_ofNat_of_zero_le hw.2.1
        obtain ⟨k, rfl⟩ := Int.eq_ofNat_of_zero_le (show 0 ≤ k by omega)
        exact Mark_loop b1 o1 b2 o2 n' c c' ws ts i k tag (if tag = 1 then 69 else 68) (by rcases ht with rfl | rfl <;> simp) w S1 S2 hn hn' R1 R2 hm (by omega) (by omega) (by omega)
      · have z4 : n' ≤ 160 := by omega
        have e : markE ws ts i k tag = 3 := by rw [markE, if_pos ⟨hm, ht⟩, if_neg (by rw [hn]; exact hw)]
        have E := Lib.hid (And.intro e (And.intro (show markW ws ts i k tag = [] by rw [markW, if_neg (by rw [e]; decide)]) (show markT ws ts i k tag = [] by rw [markT, if_neg (by rw [e]; decide)])))
        rw [E.out.1, E.out.2.1, E.out.2.2]
        have Hm := Lib.hid hm
        have Hw := Lib.hid (by simpa using hw : withinB n' i k = false)
        have b0 : ((tag != 1) = false) ∨ ((tag != 1) = true ∧ (tag != 2) = false) := by
          rcases ht with rfl | rfl <;> simp
        clear e hm hw ht z0 z1 z2 hn hn'
        rcases b0 with h1 | ⟨h1, h2⟩
        all_goals
          go_enter Tryz.func38, Tryz.ntmps38
          go_wp2_with fail
          refine (Right_any _ _ n' c n' c' ws ts _ (slA _ (slA _ S1)) (slA _ (slA _ S2))).mono ?_
          rintro e w1 ⟨rfl, hb⟩
          have hb1 : Below w.heap.size w w1 := below_from (by go_grown) hb
          obtain ⟨hc, hf⟩ := bcell hb
          have hs1 : w.heap.size + 1 < w1.heap.size := by have := hb.size; simp at this; omega
          have hs0 : w.heap.size < w1.heap.size := by omega
          have g3 : w1.cell? ⟨w.heap.size + 1, 0, none⟩ = some (.slice none 0 0) := by rw [hc _ _ (by simp)]; simp
          have g4 : w1.cell? ⟨w.heap.size + 1, 1, none⟩ = some (.slice none 0 0) := by rw [hc _ _ (by simp)]; simp
          rw [Hm.out]
          go_wp2_with fail
          refine (within_any _ _ n' c n' c' i k _ z4 HB.out.1 HB.out.2).mono ?_
          rintro e w2 ⟨rfl, hb'⟩
          have hb2 : Below w.heap.size w w2 := hb1.trans (hb'.mono (by omega))
          obtain ⟨hc', hf'⟩ := bcell hb'
          have k3 : w2.cell? ⟨w.heap.size + 1, 0, none⟩ = some (.slice none 0 0) := by rw [hc' _ _ (by omega)]; exact g3
          have k4 : w2.cell? ⟨w.heap.size + 1, 1, none⟩ = some (.slice none 0 0) := by rw [hc' _ _ (by omega)]; exact g4
          have hs2 : w.heap.size + 1 < w2.heap.size := by have := hb'.size; omega
          rw [Hw.out]
          go_wp2
          refine bp_cell_tmp ⟨w.heap.size + 1, 0, none⟩ rfl rfl rfl (load_mem _ _ _ _ (by go_cell_look) (by go_cell_look)) ?_
          exact memRet_nil (by go_grown)
    · have e : markE ws ts i k tag = 1 := by rw [markE, if_neg (fun h => ht h.2)]
      have E := Lib.hid (And.intro e (And.intro (show markW ws ts i k tag = [] by rw [markW, if_neg (by rw [e]; decide)]) (show markT ws ts i k tag = [] by rw [markT, if_neg (by rw [e]; decide)])))
      rw [E.out.1, E.out.2.1, E.out.2.2]
      have Hm := Lib.hid hm
      have h1 : (tag != 1) = true := by simp; omega
      have h2 : (tag != 2) = true := by simp; omega
      clear e hm ht
      go_enter Tryz.func38, Tryz.ntmps38
      go_wp2_with fail
      refine (Right_any _ _ n c n' c' ws ts _ (slA _ (slA _ S1)) (slA _ (slA _ S2))).mono ?_
      rintro e w1 ⟨rfl, hb⟩
      have hb1 : Below w.heap.size w w1 := below_from (by go_grown) hb
      obtain ⟨hc, hf⟩ := bcell hb
      have hs1 : w.heap.size + 1 < w1.heap.size := by have := hb.size; simp at this; omega
      have g3 : w1.cell? ⟨w.heap.size + 1, 0, none⟩ = some (.slice none 0 0) := by rw [hc _ _ (by simp)]; simp
      have g4 : w1.cell? ⟨w.heap.size + 1, 1, none⟩ = some (.slice none 0 0) := by rw [hc _ _ (by simp)]; simp
      rw [Hm.out]
      go_wp2
      refine bp_cell_tmp ⟨w.heap.size + 1, 0, none⟩ rfl rfl rfl (load_mem _ _ _ _ (by go_cell_look) (by go_cell_look)) ?_
      exact memRet_nil (by go_grown)
  · have e : markE ws ts i k tag = 1 := by rw [markE, if_neg (fun h => hm h.1)]
    have E := Lib.hid (And.intro e (And.intro (show markW ws ts i k tag = [] by rw [markW, if_neg (by rw [e]; decide)]) (show markT ws ts i k tag = [] by rw [markT, if_neg (by rw [e]; decide)])))
    rw [E.out.1, E.out.2.1, E.out.2.2]
    have Hm := Lib.hid (by simpa using hm : mayB ws ts = false)
    clear e hm
    go_enter Tryz.func38, Tryz.ntmps38
    go_wp2_with fail
    refine (Right_any _ _ n c n' c' ws ts _ (slA _ (slA _ S1)) (slA _ (slA _ S2))).mono ?_
    rintro e w1 ⟨rfl, hb⟩
    have hb1 : Below w.heap.size w w1 := below_from (by go_grown) hb
    obtain ⟨hc, hf⟩ := bcell hb
    have hs1 : w.heap.size + 1 < w1.heap.size := by have := hb.size; simp at this; omega
    have g3 : w1.cell? ⟨w.heap.size + 1, 0, none⟩ = some (.slice none 0 0) := by rw [hc _ _ (by simp)]; simp
    have g4 : w1.cell? ⟨w.heap.size + 1, 1, none⟩ = some (.slice none 0 0) := by rw [hc _ _ (by simp)]; simp
    rw [Hm.out]
    go_wp2
    refine bp_cell_tmp ⟨w.heap.size + 1, 0, none⟩ rfl rfl rfl (load_mem _ _ _ _ (by go_cell_look) (by go_cell_look)) ?_
    exact memRet_nil (by go_grown)
end Go.Proofs.YtiebaeaomgpicaaGreat
/- Rows of puts in worlds: slices of structs of two integers. -/
namespace Go.Proofs.YtiebaeaomgpicaaGreat
open Go.ChangeShapes Go.WideShapes Go.ChangeAt Go.RowKit

/-- the cells of a row of puts -/
def PRow (w : World) (b off : Nat) (ps : List (Int × Int)) : Prop := ∀ i, i < ps.length → w.cell? ⟨b, off + i * 2, none⟩ = some (.int .i64 (ps.getD i (0, 0)).1) ∧ w.cell? ⟨b, off + i * 2 + 1, none⟩ = some (.int .i64 (ps.getD i (0, 0)).2)
theorem prowA {w : World} {b off : Nat} {ps : List (Int × Int)} (o : Obj) (h : PRow w b off ps) : PRow (w.alloc o) b off ps := fun i hi => ⟨cellA o (h i hi).1, cellA o (h i hi).2⟩
theorem prowB {w w' : World} {b off : Nat} {ps : List (Int × Int)} (hb : Below w.heap.size w w') (h : PRow w b off ps) : PRow w' b off ps := fun i hi => ⟨cellB hb (h i hi).1, cellB hb (h i hi).2⟩
/-- a slice of n puts: nothing is asked of its address where it is empty -/
def Pl (w : World) (a : Option Addr) (n : Nat) (ps : List (Int × Int)) : Prop := ps.length = n ∧ (n = 0 ∨ ∃ b o, a = some ⟨b, o, none⟩ ∧ PRow w b o ps)
theorem plA {w : World} {a : Option Addr} {n : Nat} {ps : List (Int × Int)} (o : Obj) (h : Pl w a n ps) : Pl (w.alloc o) a n ps :=
  ⟨h.1, h.2.imp id fun ⟨b, f, e, r⟩ => ⟨b, f, e, prowA o r⟩⟩
theorem plB {w w' : World} {a : Option Addr} {n : Nat} {ps : List (Int × Int)} (hb : Below w.heap.size w w') (h : Pl w a n ps) : Pl w' a n ps :=
  ⟨h.1, h.2.imp id fun ⟨b, f, e, r⟩ => ⟨b, f, e, prowB hb r⟩⟩
theorem plD {w : World} {a : Option Addr} {n : Nat} {ps : List (Int × Int)} (h : Pl w a n ps) : Pl w.drew a n ps := h
theorem pl_nil (w : World) : Pl w none 0 [] := ⟨rfl, .inl rfl⟩
/-- the same, and the row lies in a block from F on -/
def PlF (F : Nat) (w : World) (a : Option Addr) (n : Nat) (ps : List (Int × Int)) : Prop := ps.length = n ∧ (n = 0 ∨ ∃ b o, a = some ⟨b, o, none⟩ ∧ F ≤ b ∧ PRow w b o ps)
theorem PlF.pl {F : Nat} {w : World} {a : Option Addr} {n : Nat} {ps : List (Int × Int)} (h : PlF F w a n ps) : Pl w a n ps := ⟨h.1, h.2.imp id fun ⟨b, o, e, _, r⟩ => ⟨b, o, e, r⟩⟩
theorem plF_nil (F : Nat) (w : World) : PlF F w none 0 [] := ⟨rfl, .inl rfl⟩
theorem plF_set {F : Nat} {w : World} {a : Option Addr} {n : Nat} {ps : List (Int × Int)} (h : PlF F w a n ps) (p : Addr) (hp : p.block < F) (v : Value) : PlF F (w.setCell p v) a n ps := by
  refine ⟨h.1, h.2.imp id ?_⟩
  rintro ⟨b, o, rfl, hf, r⟩
  refine ⟨b, o, rfl, hf, fun i hi => ?_⟩
  rw [World.cell?_setCell_other, World.cell?_setCell_other]
  · exact r i hi
  · intro e; rw [e] at hp; simp at hp; omega
  · intro e; rw [e] at hp; simp at hp; omega
theorem plF_alloc {F : Nat} {w : World} {a : Option Addr} {n : Nat} {ps : List (Int × Int)} (o : Obj) (h : PlF F w a n ps) : PlF F (w.alloc o) a n ps :=
  ⟨h.1, h.2.imp id fun ⟨b, f, e, hf, r⟩ => ⟨b, f, e, hf, prowA o r⟩⟩
theorem plF_below {F : Nat} {w w' : World} {a : Option Addr} {n : Nat} {ps : List (Int × Int)} (hb : Below w.heap.size w w') (h : PlF F w a n ps) : PlF F w' a n ps :=
  ⟨h.1, h.2.imp id fun ⟨b, f, e, hf, r⟩ => ⟨b, f, e, hf, prowB hb r⟩⟩
theorem plF_mono {F G : Nat} {w : World} {a : Option Addr} {n : Nat} {ps : List (Int × Int)} (hg : G ≤ F) (h : PlF F w a n ps) : PlF G w a n ps :=
  ⟨h.1, h.2.imp id fun ⟨b, f, e, hf, r⟩ => ⟨b, f, e, by omega, r⟩⟩

/-- the cells of puts, one behind the other -/
def pcells (ps : List (Int × Int)) : List Value := ps.flatMap fun p => [.int .i64 p.1, .int .i64 p.2]
theorem pcells_append (ps qs : List (Int × Int)) : pcells (ps ++ qs) = pcells ps ++ pcells qs := by simp [pcells]
theorem pcells_length (ps : List (Int × Int)) : (pcells ps).length = ps.length * 2 := by
  induction ps with
  | nil => rfl
  | cons p ps ih => simp only [pcells, List.flatMap_cons, List.length_append, List.length_cons, List.length_nil] at ih ⊢; omega
theorem pcells_get : ∀ (ps : List (Int × Int)) (i : Nat), i < ps.length → (pcells ps)[i * 2]? = some (.int .i64 (ps.getD i (0, 0)).1) ∧ (pcells ps)[i * 2 + 1]? = some (.int .i64 (ps.getD i (0, 0)).2)
  | [], i, h => by simp at h
  | p :: ps, 0, _ => by simp [pcells]
  | p :: ps, i + 1, h => by
    have ih := pcells_get ps i (by simpa using h)
    have e : pcells (p :: ps) = .int .i64 p.1 :: .int .i64 p.2 :: pcells ps := rfl
    rw [e, show (i + 1) * 2 = i * 2 + 1 + 1 by omega]
    simpa using ih
theorem pcells_one (ps : List (Int × Int)) : ∀ u ∈ pcells ps, u.oneCell' = true := by
  intro u hu
  simp only [pcells, List.mem_flatMap] at hu
  obtain ⟨p, _, hp⟩ := hu
  simp at hp
  rcases hp with rfl | rfl <;> rfl
theorem pcells_cell {w : World} {b off : Nat} {ps : List (Int × Int)} (R : PRow w b off ps) : ∀ j u, (pcells ps)[j]? = some u → w.cell? ⟨b, off + j, none⟩ = some u := by
  intro j u hu
  have hj : j < (pcells ps).length := (List.getElem?_eq_some_iff.1 hu).1
  rw [pcells_length] at hj
  have hg := pcells_get ps (j / 2) (by omega)
  have hr := R (j / 2) (by omega)
  rcases Nat.mod_two_eq_zero_or_one j with h | h
  · have e : j / 2 * 2 = j := by omega
    rw [e] at hg hr
    rw [hg.1] at hu
    rw [hr.1]; exact hu
  · have e : j / 2 * 2 + 1 = j := by omega
    rw [Nat.add_assoc, e] at hr
    rw [e] at hg
    rw [hg.2] at hu
    rw [hr.2]; exact hu
theorem add_none (b off j : Nat) : (⟨b, off, none⟩ : Addr).add j = ⟨b, off + j, none⟩ := by
  simp only [Addr.add]; split
  · subst_vars; rfl
  · rfl
/-- a slice's length and capacity -/
def CapOk (a : Option Addr) (n c : Nat) : Prop := n ≤ c ∧ c ≤ 9223372036854775807 ∧ (a = none → c = 0)
theorem capOk_nil : CapOk none 0 0 := ⟨Nat.le_refl _, by omega, fun _ => rfl⟩
/-- what a slice of puts of the call's own holds -/
theorem ownsRow_plF {B : Nat} {w : World} {v : Value} {n : Nat} {ps : List (Int × Int)} (h : w.ownsRow B 96 2 v n (pcells ps)) : ∃ a c, v = .slice a n c ∧ CapOk a n c ∧ PlF B w a n ps := by
  obtain ⟨hl, h⟩ := h
  have hl' : ps.length = n := by rw [pcells_length] at hl; omega
  rcases h with ⟨rfl, h0⟩ | ⟨g, cap, cur, rfl, hb, hg, hn, hm, hs, ht⟩
  · exact ⟨none, 0, by rw [h0], by subst h0; exact capOk_nil, hl', .inl h0⟩
  · unfold maxLen at hm
    refine ⟨_, _, rfl, ⟨hn, by omega, fun e => by cases e⟩, hl', .inr ⟨g, 0, rfl, hb, fun i hi => ?_⟩⟩
    have e := pcells_get ps i hi
    simp only [World.cell?, hg]
    rw [← ht, List.getElem?_take, List.getElem?_take, if_pos (by omega), if_pos (by omega)] at e
    exact ⟨by simpa using e.1, by simpa using e.2⟩

theorem Tryz.info96 : (Tryz.prog.info? 96).map (fun i => (i.zero, i.size, i.bytes)) = some (some (.agg #[.int .i64 0, .int .i64 0]), 2, 16) := by kernel_rfl
theorem load_put (w : World) (b o : Nat) (x y : Value) (k0 : w.cell? ⟨b, o, none⟩ = some x) (k1 : w.cell? ⟨b, o + 1, none⟩ = some y) : (loadVar 96 ⟨b, o, none⟩).run Tryz.prog w = .ok (.agg #[x, y]) w := by
  simp [go_sem, k0, k1]

/-- what the frame of a statement's proof tells of a slice of puts that came in -/
def IsPuts (w : World) (a : Option Addr) (len cap : Nat) (ps : List (Int × Int)) : Prop :=
  (a = none ∧ len = 0 ∧ cap = 0 ∧ ps = []) ∨
  ∃ x, a = some x ∧ len ≤ cap ∧ cap ≤ maxLen ∧ ps.length = len ∧ (∀ i, i < ps.length → w.cell? (x.add (i * 2)) = some (.int .i64 (ps.getD i (0, 0)).1) ∧ w.cell? (x.add (i * 2 + 1)) = some (.int .i64 (ps.getD i (0, 0)).2)) ∧ ∀ p ∈ ps, (Lit.int .i64 p.1).wf = true
def Wfs (ps : List (Int × Int)) : Prop := ∀ i, i < ps.length → (Lit.int .i64 (ps.getD i (0, 0)).1).wf = true
theorem isPuts_pl {w : World} {a : Option Addr} {len cap : Nat} {ps : List (Int × Int)} (h : IsPuts w a len cap ps) (k : Nat) (hk : k ≤ len) : Pl w a k (ps.take k) ∧ Wfs (ps.take k) ∧ CapOk a k cap := by
  rcases h with ⟨rfl, rfl, rfl, rfl⟩ | ⟨x, rfl, hl, hm, hz, hcell, hwf⟩
  · obtain rfl : k = 0 := by omega
    exact ⟨⟨rfl, .inl rfl⟩, by intro i hi; simp at hi, capOk_nil⟩
  · unfold maxLen at hm
    refine ⟨⟨by rw [List.length_take]; omega, ?_⟩, ?_, by omega, by omega, fun e => by cases e⟩
    · by_cases h0 : k = 0
      · exact .inl h0
      · right
        obtain ⟨b, o, s⟩ := x
        have hc := (hcell 0 (by omega)).1
        have hs : s = none := by simpa [Addr.add] using World.cell?_spot hc
        subst hs
        refine ⟨b, o, rfl, fun i hi => ?_⟩
        rw [List.length_take] at hi
        have := hcell i (by omega)
        rw [add_none, add_none] at this
        have e : (ps.take k).getD i (0, 0) = ps.getD i (0, 0) := by
          simp only [List.getD_eq_getElem?_getD, List.getElem?_take]
          rw [if_pos (by omega)]
        rw [e, Nat.add_assoc]
        exact this
    · intro i hi
      rw [List.length_take] at hi
      have e : (ps.take k).getD i (0, 0) = ps.getD i (0, 0) := by
        simp only [List.getD_eq_getElem?_getD, List.getElem?_take]
        rw [if_pos (by omega)]
      rw [e]
      have h1 : i < ps.length := by omega
      have h2 : ps.getD i (0, 0) = ps[i] := by simp [h1]
      rw [h2]
      exact hwf _ (List.getElem_mem h1)
end Go.Proofs.YtiebaeaomgpicaaGreat
/- Rows of buffers in worlds: slices of slices of puts. -/
namespace Go.Proofs.YtiebaeaomgpicaaGreat
open Go.ChangeShapes Go.WideShapes Go.ChangeAt Go.RowKit

/-- one buffer in its cell -/
def BCell (w : World) (a : Addr) (b : List (Int × Int)) : Prop := ∃ q c, w.cell? a = some (.slice q b.length c) ∧ CapOk q b.length c ∧ Pl w q b.length b
theorem bcellA {w : World} {a : Addr} {b : List (Int × Int)} (o : Obj) (h : BCell w a b) : BCell (w.alloc o) a b := by
  obtain ⟨q, c, h1, h2, h3⟩ := h
  exact ⟨q, c, cellA o h1, h2, plA o h3⟩
theorem bcellB {w w' : World} {a : Addr} {b : List (Int × Int)} (hb : Below w.heap.size w w') (h : BCell w a b) : BCell w' a b := by
  obtain ⟨q, c, h1, h2, h3⟩ := h
  exact ⟨q, c, cellB hb h1, h2, plB hb h3⟩
/-- the cells of a row of buffers -/
def BRow (w : World) (blk off : Nat) (bs : List (List (Int × Int))) : Prop := ∀ i, i < bs.length → BCell w ⟨blk, off + i, none⟩ (bs.getD i [])
/-- a slice of n buffers: nothing is asked of its address where it is empty -/
def Bl (w : World) (a : Option Addr) (n : Nat) (bs : List (List (Int × Int))) : Prop := bs.length = n ∧ (n = 0 ∨ ∃ b o, a = some ⟨b, o, none⟩ ∧ BRow w b o bs)
theorem blA {w : World} {a : Option Addr} {n : Nat} {bs : List (List (Int × Int))} (o : Obj) (h : Bl w a n bs) : Bl (w.alloc o) a n bs :=
  ⟨h.1, h.2.imp id fun ⟨b, f, e, r⟩ => ⟨b, f, e, fun i hi => bcellA o (r i hi)⟩⟩
theorem blB {w w' : World} {a : Option Addr} {n : Nat} {bs : List (List (Int × Int))} (hb : Below w.heap.size w w') (h : Bl w a n bs) : Bl w' a n bs :=
  ⟨h.1, h.2.imp id fun ⟨b, f, e, r⟩ => ⟨b, f, e, fun i hi => bcellB hb (r i hi)⟩⟩
theorem blD {w : World} {a : Option Addr} {n : Nat} {bs : List (List (Int × Int))} (h : Bl w a n bs) : Bl w.drew a n bs := h
theorem bl_nil (w : World) : Bl w none 0 [] := ⟨rfl, .inl rfl⟩
theorem bl_at {w : World} {a : Option Addr} {n : Nat} {bs : List (List (Int × Int))} (h : Bl w a n bs) {i : Nat} (hi : i < n) :
    ∃ b o q c, a = some ⟨b, o, none⟩ ∧ w.cell? ⟨b, o + i, none⟩ = some (.slice q (bs.getD i []).length c) ∧ CapOk q (bs.getD i []).length c ∧ Pl w q (bs.getD i []).length (bs.getD i []) := by
  obtain ⟨b, o, e, r⟩ := h.2.resolve_left (by omega)
  obtain ⟨q, c, h1, h2, h3⟩ := r i (by rw [h.1]; exact hi)
  exact ⟨b, o, q, c, e, h1, h2, h3⟩
/-- the values of a row of buffers, as an append law wants them -/
def BVals (w : World) (vs : List Value) (bs : List (List (Int × Int))) : Prop := vs.length = bs.length ∧ ∀ i, i < bs.length → ∃ q c, vs[i]? = some (.slice q (bs.getD i []).length c) ∧ CapOk q (bs.getD i []).length c ∧ Pl w q (bs.getD i []).length (bs.getD i [])
theorem bvals_nil (w : World) : BVals w [] [] := ⟨rfl, fun i hi => by simp at hi⟩
theorem bvalsB {w w' : World} {vs : List Value} {bs : List (List (Int × Int))} (hb : Below w.heap.size w w') (h : BVals w vs bs) : BVals w' vs bs :=
  ⟨h.1, fun i hi => by obtain ⟨q, c, h1, h2, h3⟩ := h.2 i hi; exact ⟨q, c, h1, h2, plB hb h3⟩⟩
theorem bvals_snoc {w : World} {vs : List Value} {bs : List (List (Int × Int))} {q : Option Addr} {n c : Nat} {b : List (Int × Int)} (h : BVals w vs bs) (hc : CapOk q n c) (hp : Pl w q n b) : BVals w (vs ++ [.slice q n c]) (bs ++ [b]) := by
  obtain rfl : b.length = n := hp.1
  refine ⟨by simp [h.1], fun i hi => ?_⟩
  rw [List.length_append, List.length_singleton] at hi
  by_cases e : i = bs.length
  · subst e
    refine ⟨q, c, ?_, ?_, ?_⟩
    · rw [List.getElem?_append_right (by rw [h.1]; exact Nat.le_refl _), h.1]; simp
    · simpa using hc
    · simpa using hp
  · have hi' : i < bs.length := by omega
    obtain ⟨q', c', h1, h2, h3⟩ := h.2 i hi'
    have e2 : (bs ++ [b]).getD i [] = bs.getD i [] := by
      simp only [List.getD_eq_getElem?_getD]
      rw [List.getElem?_append_left hi']
    rw [e2]
    exact ⟨q', c', by rw [List.getElem?_append_left (by rw [h.1]; exact hi')]; exact h1, h2, h3⟩
/-- what a slice of buffers of the call's own holds (e: the number of type []api.Put) -/
theorem ownsRow_bl {e B : Nat} {w : World} {v : Value} {n : Nat} {vs : List Value} {bs : List (List (Int × Int))} (h : w.ownsRow B e 1 v n vs) (hv : BVals w vs bs) : ∃ a c, v = .slice a n c ∧ CapOk a n c ∧ Bl w a n bs := by
  obtain ⟨hl, h⟩ := h
  have hl' : bs.length = n := by rw [← hv.1, hl, Nat.mul_one]
  rcases h with ⟨rfl, h0⟩ | ⟨g, cap, cur, rfl, hb, hg, hn, hm, hs, ht⟩
  · exact ⟨none, 0, by rw [h0], by subst h0; exact capOk_nil, hl', .inl h0⟩
  · unfold maxLen at hm
    refine ⟨_, _, rfl, ⟨hn, by omega, fun e => by cases e⟩, hl', .inr ⟨g, 0, rfl, fun i hi => ?_⟩⟩
    obtain ⟨q, c, h1, h2, h3⟩ := hv.2 i hi
    refine ⟨q, c, ?_, h2, h3⟩
    simp only [World.cell?, hg]
    rw [← ht, List.getElem?_take, if_pos (by omega)] at h1
    simpa using h1
end Go.Proofs.YtiebaeaomgpicaaGreat
