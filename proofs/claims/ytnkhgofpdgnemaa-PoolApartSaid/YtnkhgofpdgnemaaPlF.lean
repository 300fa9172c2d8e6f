/- Contracts of package pool: Take. -/
import Derived.Test.YtnkhgofpdgnemaaPlE
namespace Go.Proofs.Ytnkhgofpdgnemaa
open Go.ChangeShapes Go.WideShapes Go.ChangeAt Go.RowKit Gen

/-- a pool, a place and a reason are handed back -/
def PlPost3 (r : Pl4 × Int × Int) (w : World) (e : Ending) (w' : World) : Prop := ∃ q c, e = .returned (.tuple #[.agg #[.int .i64 r.1.s, .int .i64 r.1.b, .int .i64 r.1.m, .slice q r.1.fs.length c], .int .i64 r.2.1, .int .i64 r.2.2]) ∧ CapOk q r.1.fs.length c ∧ SlF w.heap.size w' q r.1.fs.length r.1.fs ∧ Below w.heap.size w w'
theorem plPost3_0 {x : Int} {w w' : World} {r : Pl4 × Int × Int} (hr : r = (pl0, 0, x)) (hb : Below w.heap.size w w') : PlPost3 r w (.returned (.tuple #[.agg #[.int .i64 0, .int .i64 0, .int .i64 0, .slice none 0 0], .int .i64 0, .int .i64 x])) w' := by
  subst hr
  exact ⟨none, 0, rfl, capOk_nil, slF_nil _ _, hb⟩
theorem plPost3_mk {r : Pl4 × Int × Int} {s b m y x : Int} {l : List Int} {k d F : Nat} {q : Option Addr} {w w' : World} (hr : r = (⟨s, b, m, l⟩, y, x)) (hl : l.length = k) (hc : CapOk q k d) (hF : w.heap.size ≤ F) (hs : SlF F w' q k l) (hb : Below w.heap.size w w') :
    PlPost3 r w (.returned (.tuple #[.agg #[.int .i64 s, .int .i64 b, .int .i64 m, .slice q k d], .int .i64 y, .int .i64 x])) w' := by
  subst hr hl
  exact ⟨q, d, rfl, hc, slF_le hF hs, hb⟩
theorem pl_own_cap {W : World} {B : Nat} {e : TypeId} {n : Nat} {q : Option Addr} {c : Nat} {xs : List Value} (h : W.ownsRow B e 1 (.slice q n c) n xs) : CapOk q n c := by
  rcases h.2 with ⟨h1, h2⟩ | ⟨g, cap, cur, h1, _, _, h2, h3, _⟩
  · cases h1; exact capOk_nil
  · cases h1
    unfold maxLen at h3
    exact ⟨h2, by omega, fun e => by cases e⟩

theorem pl_below4 {F g : Nat} {x y z u : Value} {w0 w : World} (hg : F ≤ g) (h : Below F w0 w) : Below F w0 ((((w.setCell ⟨g, 0, none⟩ x).setCell ⟨g, 1, none⟩ y).setCell ⟨g, 2, none⟩ z).setCell ⟨g, 3, none⟩ u) :=
  below_setN (k := 0) (xs := [x, y, z, u]) hg h
theorem pl_slF4 {F g : Nat} {x y z u : Value} {w : World} {a : Option Addr} {n : Nat} {zs : List Int} (hg : g < F) (h : SlF F w a n zs) : SlF F ((((w.setCell ⟨g, 0, none⟩ x).setCell ⟨g, 1, none⟩ y).setCell ⟨g, 2, none⟩ z).setCell ⟨g, 3, none⟩ u) a n zs :=
  slF_setN (k := 0) (us := [x, y, z, u]) hg h

set_option maxHeartbeats 4000000 in
theorem plTake_any (s b m : Int) (a : Option Addr) (n c : Nat) (fs : List Int) (w : World) (S : Sl w a n fs) (hn : n ≤ 1000) (hcap : CapOk a n c) :
    Calls Try.prog 15 #[.agg #[.int .i64 s, .int .i64 b, .int .i64 m, .slice a n c]] w (PlPost3 (plTake ⟨s, b, m, fs⟩) w) := by
  have Hn := Lib.hid S.1
  cases hr : plRight s b m fs with
  | false =>
    have HR := Lib.hid hr
    have HT := Lib.hid (show plTake ⟨s, b, m, fs⟩ = (pl0, 0, 1) by simp [plTake, plOkP, hr])
    clear hr hcap
    go_enter Try.func15, Try.ntmps15
    go_wp2_with fail
    have hZ := varN_new [.int .i64 0, .int .i64 0, .int .i64 0, .slice none 0 0] (t := 24) (w := w.alloc (.cells #[.int .i64 s, .int .i64 b, .int .i64 m, .slice a n c] 24)) (w.heap.size + 1) (by simp)
    refine (plRight_any s b m a n c fs _ (slA _ (slA _ S)) hn).mono ?_
    rintro e w1 ⟨rfl, hb⟩
    rw [HR.out]
    have HB := Lib.hid (below_from (by go_grown) hb : Below w.heap.size w w1)
    have HZ := Lib.hid (varN_B hb hZ)
    obtain ⟨x0, f0⟩ := HZ.out 0 _ rfl
    obtain ⟨x1, f1⟩ := HZ.out 1 _ rfl
    obtain ⟨x2, f2⟩ := HZ.out 2 _ rfl
    obtain ⟨x3, f3⟩ := HZ.out 3 _ rfl
    clear hb hZ
    go_wp2
    have HZ2 := varN_all (xs := [.int .i64 0, .int .i64 0, .int .i64 0, .slice none 0 0]) HZ.out rfl
    refine bp_cell_tmp2 ⟨w.heap.size + 1, 0, none⟩ rfl rfl rfl (plLoad HZ2) ?_
    exact plPost3_0 HT.out (pl_below4 (by omega) HB.out)
  | true =>
    have HR := Lib.hid hr
    by_cases h0 : n = 0
    · have HT := Lib.hid (show plTake ⟨s, b, m, fs⟩ = (pl0, 0, 14) by
        have : fs.length = 0 := by rw [Hn.out]; exact h0
        simp [plTake, plOkP, hr, this])
      subst h0
      clear hr hcap
      go_enter Try.func15, Try.ntmps15
      go_wp2_with fail
      have hA := varN_new [.int .i64 s, .int .i64 b, .int .i64 m, .slice a 0 c] (t := 24) (w := w) w.heap.size rfl
      have hZ := varN_new [.int .i64 0, .int .i64 0, .int .i64 0, .slice none 0 0] (t := 24) (w := w.alloc (.cells #[.int .i64 s, .int .i64 b, .int .i64 m, .slice a 0 c] 24)) (w.heap.size + 1) (by simp)
      refine (plRight_any s b m a 0 c fs _ (slA _ (slA _ S)) hn).mono ?_
      rintro e w1 ⟨rfl, hb⟩
      rw [HR.out]
      have HB := Lib.hid (below_from (by go_grown) hb : Below w.heap.size w w1)
      have HZ := Lib.hid (varN_B hb hZ)
      have y3 := (varN_B hb (varN_A _ hA) 3 _ rfl).1
      obtain ⟨x0, f0⟩ := HZ.out 0 _ rfl
      obtain ⟨x1, f1⟩ := HZ.out 1 _ rfl
      obtain ⟨x2, f2⟩ := HZ.out 2 _ rfl
      obtain ⟨x3, f3⟩ := HZ.out 3 _ rfl
      clear hb hZ hA
      go_wp2
      have HZ2 := varN_all (xs := [.int .i64 0, .int .i64 0, .int .i64 0, .slice none 0 0]) HZ.out rfl
      refine bp_cell_tmp2 ⟨w.heap.size + 1, 0, none⟩ rfl rfl rfl (plLoad HZ2) ?_
      exact plPost3_0 HT.out (pl_below4 (by omega) HB.out)
    · obtain ⟨k, hk⟩ : ∃ k, n = k + 1 := ⟨n - 1, by omega⟩
      subst hk
      have hfl : fs.length = k + 1 := Hn.out
      obtain ⟨bb, oo, rfl, R⟩ := S.2.resolve_left h0
      obtain ⟨y, hy⟩ : ∃ y, fs.getD k 0 = y := ⟨_, rfl⟩
      have hlen : (fs.take k).length = k := by rw [List.length_take]; omega
      have HT := Lib.hid (show plTake ⟨s, b, m, fs⟩ = (⟨s, b, m, fs.take k⟩, y, 0) by
        simp [plTake, plOkP, hr, hfl, ← hy])
      have gy := R k (by omega)
      rw [hy] at gy
      have Sk : Sl w (some ⟨bb, oo, none⟩) k (fs.take k) := ⟨hlen, .inr ⟨bb, oo, rfl, fun i hi => by
        rw [hlen] at hi
        rw [R i (by omega)]
        simp [List.getD_eq_getElem?_getD, hi]⟩⟩
      have hc1 := hcap.1
      have hc2 := hcap.2.1
      have HL := Lib.hid hlen
      clear hr h0 hy hfl hlen hcap
      go_enter Try.func15, Try.ntmps15
      go_wp2_with fail
      have hA := varN_new [.int .i64 s, .int .i64 b, .int .i64 m, .slice (some ⟨bb, oo, none⟩) (k + 1) c] (t := 24) (w := w) w.heap.size rfl
      have hZ := varN_new [.int .i64 0, .int .i64 0, .int .i64 0, .slice none 0 0] (t := 24) (w := w.alloc (.cells #[.int .i64 s, .int .i64 b, .int .i64 m, .slice (some ⟨bb, oo, none⟩) (k + 1) c] 24)) (w.heap.size + 1) (by simp)
      refine (plRight_any s b m (some ⟨bb, oo, none⟩) (k + 1) c fs _ (slA _ (slA _ S)) hn).mono ?_
      rintro e w1 ⟨rfl, hb⟩
      rw [HR.out]
      have hb0 : Below w.heap.size w w1 := below_from (by go_grown) hb
      have HB := Lib.hid hb0
      have HZ := Lib.hid (varN_B hb hZ)
      have HA := Lib.hid (varN_B hb (varN_A (.cells #[.int .i64 0, .int .i64 0, .int .i64 0, .slice none 0 0] 24) hA))
      have gy1 := cellB hb0 gy
      have HS1 := Lib.hid (slB hb0 Sk)
      obtain ⟨y3, -⟩ := HA.out 3 _ rfl
      have i1 : (0 : Int) ≤ k := by omega
      have hsz : w.heap.size + 1 < w1.heap.size := varN_lt HZ.out (by simp)
      clear hb hZ hA hb0 gy S R Sk
      go_wp2_with fail
      refine (plClone_any (some ⟨bb, oo, none⟩) k c (fs.take k) _ HS1.out (by omega) ⟨by omega, hc2, fun e => by cases e⟩).mono ?_
      rintro e w2 ⟨v, rfl, hown, hb2⟩
      rw [HL.out] at hown
      obtain ⟨q, d, rfl⟩ := pl_own_form hown
      have HO := Lib.hid hown
      have HB2 := Lib.hid hb2
      have HZ2 := Lib.hid (varN_B hb2 HZ.out)
      have HA2 := Lib.hid (varN_B hb2 HA.out)
      obtain ⟨z0, -⟩ := HA2.out 0 _ rfl
      obtain ⟨z1, -⟩ := HA2.out 1 _ rfl
      obtain ⟨z2, -⟩ := HA2.out 2 _ rfl
      obtain ⟨z3, g3⟩ := HA2.out 3 _ rfl
      obtain ⟨x0, f0⟩ := HZ2.out 0 _ rfl
      obtain ⟨x1, f1⟩ := HZ2.out 1 _ rfl
      obtain ⟨x2, f2⟩ := HZ2.out 2 _ rfl
      obtain ⟨x3, f3⟩ := HZ2.out 3 _ rfl
      clear hown hb2 gy1 y3
      go_wp2
      have HZ3 := varN_all (xs := [.int .i64 s, .int .i64 b, .int .i64 m, .slice q k d]) (varN_other HZ2.out (g' := w.heap.size) (by omega) (o := 3) (.slice q k d)) rfl
      refine bp_cell_tmp2 ⟨w.heap.size + 1, 0, none⟩ rfl rfl rfl (plLoad HZ3) ?_
      have hcd := pl_own_cap HO.out
      obtain ⟨q', d', e', hs⟩ := ownsRow_slF HO.out
      injection e' with e1 e2 e3
      subst e1 e3
      have hs4 := slF_set hs ⟨w.heap.size, 3, none⟩ (show w.heap.size < w1.heap.size by omega) (.slice q k d)
      have hb4 : Below w.heap.size w (w2.setCell ⟨w.heap.size, 3, none⟩ (.slice q k d)) := (HB.out.trans (HB2.out.mono HB.out.size)).setCell (p := ⟨w.heap.size, 3, none⟩) (Nat.le_refl _) _
      exact plPost3_mk HT.out HL.out hcd (Nat.le_of_lt (Nat.lt_of_succ_lt hsz)) (pl_slF4 hsz hs4) (pl_below4 (Nat.le_succ _) hb4)
end Go.Proofs.Ytnkhgofpdgnemaa
