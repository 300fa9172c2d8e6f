/- Contracts of respiteref12: Take, Give, Same; the laws' few and alive. -/
import Derived.Test.YtnkhgofpdgnemaaPlT
import Derived.Deep.DeepCutAuto
import Derived.Laws.AppendOwnNone
namespace Go.Proofs.Ytnkhgofpdgnemaa
open Go.ChangeShapes Go.WideShapes Go.ChangeAt Go.RowKit Gen

def plTakeR (p : Pl4) : Pl4 × Int × Int := if p.fs.length = 0 then (pl0, 0, 14) else ({ p with fs := p.fs.take (p.fs.length - 1) }, p.fs.getD (p.fs.length - 1) 0, 0)
def plGiveR (p : Pl4) (x : Int) : Pl4 × Int := if plHas (plBl p.s p.b p.m.toNat) x = true then (if plHas p.fs x = true then (pl0, 5) else ({ p with fs := p.fs ++ [x] }, 0)) else (pl0, 3)
/-- append of all integers of a slice, nil or not, to a row of one's own -/
theorem wpList_append_ints {ops : Array Oper} {rest : List Oper} {o : Oper} {a : Act} {Q : Exit → Act → World → Prop} {w : World} (hgd : o.guard = none) (s x : Operand)
    (ho : o.op = .call { callee := .builtin .append, args := #[s, x], argTypes := #[22, 22] }) (base : Nat) (v : Value) (n : Nat) (xs : List Value) (hs : a.eval s = v) (hown : w.ownsRow base 3 1 v n xs)
    (fa : Option Addr) (m c : Nat) (ys : List Int) (hx : a.eval x = .slice fa m c) (V : Sl w fa m ys) (C : CapOk fa m c) (hn : n + m ≤ 1000) (hbase : base ≤ w.heap.size)
    (h : ∀ v' w', w'.ownsRow base 3 1 v' (n + m) (xs ++ ys.map (Value.int .i64)) → w.grownBy w' v.ownBlock → wpList Try.prog ops Q rest (a.put o.dst v') w') : wpList Try.prog ops Q (o :: rest) a w := by
  obtain ⟨i0, hi, hz0, hz1, hz2⟩ := info_parts Try.info3
  cases fa with
  | none =>
    obtain rfl : c = 0 := C.2.2 rfl
    obtain rfl : m = 0 := by have := C.1; omega
    obtain rfl : ys = [] := List.eq_nil_of_length_eq_zero V.1
    refine wpList_append_own_none hgd s x 22 ho base 3 i0 1 Try.underlying22 hi v n xs hs hown hx (h v w ?_ (World.grownBy.refl _ _))
    simpa using hown
  | some p =>
    refine wpList_append_own w hgd s x 22 ho base 3 i0 (.int .i64 0) 1 8 Try.underlying22 hi hz0 hz1 hz2 rfl (by decide) v n xs hs hown p m c (ys.map (Value.int .i64)) hx (by simp [V.1]) (fun j u hu => ?_) (fun u hu => ?_) (by unfold maxLen; omega) (by omega) hbase (fun v' w' h1 h2 _ => h v' w' h1 h2)
    · have hj : j < ys.length := by simpa using (List.getElem?_eq_some_iff.1 hu).1
      obtain ⟨b, o, e, R⟩ := V.2.resolve_left (by have := V.1; omega)
      cases e
      exact row_cells R j u hu
    · simp at hu; obtain ⟨z, _, rfl⟩ := hu; rfl

/-- the same as PlPost3, where the list may be the argument's -/
def PlPostQ (Q : Nat → Prop) (r : Pl4 × Int × Int) (w : World) (e : Ending) (w' : World) : Prop := ∃ q c, e = .returned (.tuple #[.agg #[.int .i64 r.1.s, .int .i64 r.1.b, .int .i64 r.1.m, .slice q r.1.fs.length c], .int .i64 r.2.1, .int .i64 r.2.2]) ∧ SlP Q w' q r.1.fs.length r.1.fs ∧ Below w.heap.size w w'
theorem plPostQ_mk {Q : Nat → Prop} {r : Pl4 × Int × Int} {s b m y x : Int} {l : List Int} {k d : Nat} {q : Option Addr} {w w' : World} (hr : r = (⟨s, b, m, l⟩, y, x)) (hl : l.length = k) (hs : SlP Q w' q k l) (hb : Below w.heap.size w w') :
    PlPostQ Q r w (.returned (.tuple #[.agg #[.int .i64 s, .int .i64 b, .int .i64 m, .slice q k d], .int .i64 y, .int .i64 x])) w' := by
  subst hr hl
  exact ⟨q, d, rfl, hs, hb⟩
theorem pl_slP4 {Q : Nat → Prop} {g : Nat} {x y z u : Value} {w : World} {a : Option Addr} {n : Nat} {zs : List Int} (hg : ∀ b, Q b → b ≠ g) (h : SlP Q w a n zs) : SlP Q ((((w.setCell ⟨g, 0, none⟩ x).setCell ⟨g, 1, none⟩ y).setCell ⟨g, 2, none⟩ z).setCell ⟨g, 3, none⟩ u) a n zs :=
  slP_set _ hg _ (slP_set _ hg _ (slP_set _ hg _ (slP_set _ hg _ h)))

set_option maxHeartbeats 4000000 in
theorem plRefTake_any (Q : Nat → Prop) (s b m : Int) (a : Option Addr) (n c : Nat) (fs : List Int) (w : World) (S : SlP Q w a n fs) (hQ : ∀ b, Q b → b < w.heap.size) (hn : n ≤ 1000) (hcap : CapOk a n c) :
    Calls Try.prog 18 #[.agg #[.int .i64 s, .int .i64 b, .int .i64 m, .slice a n c]] w (PlPostQ Q (plTakeR ⟨s, b, m, fs⟩) w) := by
  have Hn := Lib.hid S.1
  have hA := varN_new [.int .i64 s, .int .i64 b, .int .i64 m, .slice a n c] (t := 24) (w := w) w.heap.size rfl
  have hZ := varN_new [.int .i64 0, .int .i64 0, .int .i64 0, .slice none 0 0] (t := 24) (w := w.alloc (.cells #[.int .i64 s, .int .i64 b, .int .i64 m, .slice a n c] 24)) (w.heap.size + 1) (by simp)
  obtain ⟨W, hW⟩ : ∃ W, (w.alloc (.cells #[.int .i64 s, .int .i64 b, .int .i64 m, .slice a n c] 24)).alloc (.cells #[.int .i64 0, .int .i64 0, .int .i64 0, .slice none 0 0] 24) = W := ⟨_, rfl⟩
  have HA := Lib.hid (show VarN W w.heap.size [.int .i64 s, .int .i64 b, .int .i64 m, .slice a n c] by rw [← hW]; exact varN_A _ hA)
  have HZ := Lib.hid (show VarN W (w.heap.size + 1) [.int .i64 0, .int .i64 0, .int .i64 0, .slice none 0 0] by rw [← hW]; exact hZ)
  have HB := Lib.hid (show Below w.heap.size w W by rw [← hW]; go_grown)
  have HW := Lib.hid hW
  have hc1 := hcap.1
  have hc2 := hcap.2.1
  clear hA hZ hW hcap
  obtain ⟨x0, f0⟩ := HZ.out 0 _ rfl
  obtain ⟨x1, f1⟩ := HZ.out 1 _ rfl
  obtain ⟨x2, f2⟩ := HZ.out 2 _ rfl
  obtain ⟨x3, f3⟩ := HZ.out 3 _ rfl
  obtain ⟨z0, g0⟩ := HA.out 0 _ rfl
  obtain ⟨z1, g1⟩ := HA.out 1 _ rfl
  obtain ⟨z2, g2⟩ := HA.out 2 _ rfl
  obtain ⟨z3, g3⟩ := HA.out 3 _ rfl
  by_cases h0 : n = 0
  · have HT := Lib.hid (show plTakeR ⟨s, b, m, fs⟩ = (pl0, 0, 14) by
      have : fs.length = 0 := by rw [Hn.out]; exact h0
      simp [plTakeR, this])
    subst h0
    go_enter Try.func18, Try.ntmps18
    go_upto_region 1 with fail
    rw [HW.out]
    go_wp2
    have HZ2 := varN_all (xs := [.int .i64 0, .int .i64 0, .int .i64 0, .slice none 0 0]) HZ.out rfl
    refine bp_cell_tmp2 ⟨w.heap.size + 1, 0, none⟩ rfl rfl rfl (plLoad HZ2) ?_
    exact plPostQ_mk HT.out rfl ⟨rfl, .inl rfl⟩ (pl_below4 (by omega) HB.out)
  · obtain ⟨k, hk⟩ : ∃ k, n = k + 1 := ⟨n - 1, by omega⟩
    subst hk
    have hfl : fs.length = k + 1 := Hn.out
    obtain ⟨bb, oo, rfl, hQb, R⟩ := S.2.resolve_left h0
    obtain ⟨y, hy⟩ : ∃ y, fs.getD k 0 = y := ⟨_, rfl⟩
    have hlen : (fs.take k).length = k := by rw [List.length_take]; omega
    have HT := Lib.hid (show plTakeR ⟨s, b, m, fs⟩ = (⟨s, b, m, fs.take k⟩, y, 0) by
      simp [plTakeR, hfl, ← hy])
    have gy := R k (by omega)
    rw [hy] at gy
    have gy1 := cellB HB.out gy
    have HSk := Lib.hid (show SlP Q W (some ⟨bb, oo, none⟩) k (fs.take k) from ⟨hlen, .inr ⟨bb, oo, rfl, hQb, fun i hi => by
      rw [hlen] at hi
      rw [cellB HB.out (R i (by omega))]
      simp [List.getD_eq_getElem?_getD, hi]⟩⟩)
    have HL := Lib.hid hlen
    have HQ := Lib.hid hQ
    have i1 : (0 : Int) ≤ k := by omega
    clear h0 hy hfl hlen gy R S hQ
    go_enter Try.func18, Try.ntmps18
    go_upto_region 1 with fail
    rw [HW.out]
    go_wp2
    have HZ3 := varN_all (xs := [.int .i64 s, .int .i64 b, .int .i64 m, .slice (some ⟨bb, oo, none⟩) k c]) (varN_other HZ.out (g' := w.heap.size) (by omega) (o := 3) (.slice (some ⟨bb, oo, none⟩) k c)) rfl
    refine bp_cell_tmp2 ⟨w.heap.size + 1, 0, none⟩ rfl rfl rfl (plLoad HZ3) ?_
    have hs4 := slP_set ⟨w.heap.size, 3, none⟩ (fun b hb => by have := HQ.out b hb; show b ≠ w.heap.size; omega) (.slice (some ⟨bb, oo, none⟩) k c) HSk.out
    have hb4 : Below w.heap.size w (W.setCell ⟨w.heap.size, 3, none⟩ (.slice (some ⟨bb, oo, none⟩) k c)) := HB.out.setCell (p := ⟨w.heap.size, 3, none⟩) (Nat.le_refl _) _
    exact plPostQ_mk HT.out HL.out (pl_slP4 (fun b hb => by have := HQ.out b hb; omega) hs4) (pl_below4 (Nat.le_succ _) hb4)

set_option maxHeartbeats 8000000 in
theorem plRefGive_any (s b m : Int) (a : Option Addr) (n c : Nat) (fs : List Int) (x : Int) (w : World) (S : Sl w a n fs) (hn : n ≤ 500) (hf : plFit s b m = true) (hcap : CapOk a n c) :
    Calls Try.prog 19 #[.agg #[.int .i64 s, .int .i64 b, .int .i64 m, .slice a n c], .int .i64 x] w (PlPost2 (plGiveR ⟨s, b, m, fs⟩ x) w) := by
  have Hn := Lib.hid S.1
  have HF := Lib.hid hf
  have hA := varN_new [.int .i64 s, .int .i64 b, .int .i64 m, .slice a n c] (t := 24) (w := w) w.heap.size rfl
  have hZ := varN_new [.int .i64 0, .int .i64 0, .int .i64 0, .slice none 0 0] (t := 24) (w := w.alloc (.cells #[.int .i64 s, .int .i64 b, .int .i64 m, .slice a n c] 24)) (w.heap.size + 1) (by simp)
  obtain ⟨W, hW⟩ : ∃ W, (w.alloc (.cells #[.int .i64 s, .int .i64 b, .int .i64 m, .slice a n c] 24)).alloc (.cells #[.int .i64 0, .int .i64 0, .int .i64 0, .slice none 0 0] 24) = W := ⟨_, rfl⟩
  have HA := Lib.hid (show VarN W w.heap.size [.int .i64 s, .int .i64 b, .int .i64 m, .slice a n c] by rw [← hW]; exact varN_A _ hA)
  have HZ := Lib.hid (show VarN W (w.heap.size + 1) [.int .i64 0, .int .i64 0, .int .i64 0, .slice none 0 0] by rw [← hW]; exact hZ)
  have HB := Lib.hid (show Below w.heap.size w W by rw [← hW]; go_grown)
  have HW := Lib.hid hW
  have HC := Lib.hid hcap
  clear hA hZ hW hf hcap
  obtain ⟨z0, -⟩ := HA.out 0 _ rfl
  obtain ⟨z1, -⟩ := HA.out 1 _ rfl
  obtain ⟨z2, -⟩ := HA.out 2 _ rfl
  obtain ⟨z3, -⟩ := HA.out 3 _ rfl
  cases hp : plHas (plBl s b m.toNat) x with
  | false =>
    have HP := Lib.hid hp
    have HT := Lib.hid (show plGiveR ⟨s, b, m, fs⟩ x = (pl0, 3) by simp [plGiveR, hp])
    clear hp
    go_enter Try.func19, Try.ntmps19
    go_upto_region 1 with fail
    rw [HW.out]
    go_wp2_with fail
    refine (plFirst_any s b m a n c x _ HF.out).mono ?_
    rintro e w2 ⟨rfl, hb2⟩
    rw [HP.out]
    have HB2 := Lib.hid (HB.out.trans (hb2.mono HB.out.size))
    have HZ2 := Lib.hid (varN_B hb2 HZ.out)
    obtain ⟨x0, f0⟩ := HZ2.out 0 _ rfl
    obtain ⟨x1, f1⟩ := HZ2.out 1 _ rfl
    obtain ⟨x2, f2⟩ := HZ2.out 2 _ rfl
    obtain ⟨x3, f3⟩ := HZ2.out 3 _ rfl
    clear hb2 z0 z1 z2 z3
    go_wp2
    have HZ3 := varN_all (xs := [.int .i64 0, .int .i64 0, .int .i64 0, .slice none 0 0]) HZ2.out rfl
    refine bp_cell_tmp ⟨w.heap.size + 1, 0, none⟩ rfl rfl rfl (plLoad HZ3) ?_
    exact plPost2_0 HT.out (pl_below4 (by omega) HB2.out)
  | true =>
    have HP := Lib.hid hp
    cases hh : plHas fs x with
    | true =>
      have HH := Lib.hid hh
      have HT := Lib.hid (show plGiveR ⟨s, b, m, fs⟩ x = (pl0, 5) by simp [plGiveR, hp, hh])
      clear hp hh
      go_enter Try.func19, Try.ntmps19
      go_upto_region 1 with fail
      rw [HW.out]
      go_wp2_with fail
      refine (plFirst_any s b m a n c x _ HF.out).mono ?_
      rintro e w2 ⟨rfl, hb2⟩
      rw [HP.out]
      have HB2 := Lib.hid (HB.out.trans (hb2.mono HB.out.size))
      have HZ2 := Lib.hid (varN_B hb2 HZ.out)
      have HS2 := Lib.hid (slB HB2.out S)
      obtain ⟨y3, -⟩ := varN_B hb2 HA.out 3 _ rfl
      obtain ⟨x0, f0⟩ := HZ2.out 0 _ rfl
      obtain ⟨x1, f1⟩ := HZ2.out 1 _ rfl
      obtain ⟨x2, f2⟩ := HZ2.out 2 _ rfl
      obtain ⟨x3, f3⟩ := HZ2.out 3 _ rfl
      clear hb2 z0 z1 z2 z3
      go_wp2_with (go_at_call 22; refine (plHas_any a n c fs x _ HS2.out (by omega)).mono ?_; rw [HH.out]; rintro e w3 ⟨rfl, rfl⟩)
      have HZ3 := varN_all (xs := [.int .i64 0, .int .i64 0, .int .i64 0, .slice none 0 0]) HZ2.out rfl
      refine bp_cell_tmp ⟨w.heap.size + 1, 0, none⟩ rfl rfl rfl (plLoad HZ3) ?_
      exact plPost2_0 HT.out (pl_below4 (by omega) HB2.out)
    | false =>
      have HH := Lib.hid hh
      have HT := Lib.hid (show plGiveR ⟨s, b, m, fs⟩ x = (⟨s, b, m, fs ++ [x]⟩, 0) by simp [plGiveR, hp, hh])
      obtain ⟨i0, hi, hz0, hz1, hz2⟩ := info_parts Try.info3
      have HI := Lib.hid (And.intro hi (And.intro hz0 (And.intro hz1 hz2)))
      clear hp hh hi hz0 hz1 hz2
      go_enter Try.func19, Try.ntmps19
      go_upto_region 1 with fail
      rw [HW.out]
      go_wp2_with fail
      refine (plFirst_any s b m a n c x _ HF.out).mono ?_
      rintro e w2 ⟨rfl, hb2⟩
      rw [HP.out]
      have HB2 := Lib.hid (HB.out.trans (hb2.mono HB.out.size))
      have HZ2 := Lib.hid (varN_B hb2 HZ.out)
      have HA2 := Lib.hid (varN_B hb2 HA.out)
      have HS2 := Lib.hid (slB HB2.out S)
      have hsz : w.heap.size + 1 < w2.heap.size := varN_lt HZ2.out (by simp)
      obtain ⟨y3, -⟩ := HA2.out 3 _ rfl
      clear hb2 z0 z1 z2 z3
      go_upto_region 6 with (go_at_call 22; refine (plHas_any a n c fs x _ HS2.out (by omega)).mono ?_; rw [HH.out]; rintro e w3 ⟨rfl, hw3⟩; have hw4 := hw3.symm; clear hw3; subst hw4)
      have hown0 : (w2.alloc (.cells #[] 3)).ownsRow w2.heap.size 3 1 (.slice (some ⟨w2.heap.size, 0, none⟩) 0 0) 0 [] := World.ownsRow_made w2 #[] 0 (Nat.le_refl _) (by decide) (by simp)
      obtain ⟨w3, hw3⟩ : ∃ w3, w2.alloc (.cells #[] 3) = w3 := ⟨_, rfl⟩
      have hb3 : Below w2.heap.size w2 w3 := by rw [← hw3]; exact (Below.refl _ _).alloc (Nat.le_refl _) _
      have y4 := cellB hb3 y3
      rw [hw3] at hown0
      rw [hw3]
      have HO0 := Lib.hid hown0
      have HB3 := Lib.hid hb3
      have HS3 := Lib.hid (slB hb3 HS2.out)
      have hsz3 := hb3.size
      clear hown0 hw3 hb3 y3
      go_wp2_with (at_builtin; refine wpList_append_ints rfl _ _ rfl w2.heap.size _ 0 [] rfl HO0.out a n c fs rfl HS3.out HC.out (by omega) hsz3 ?_)
      intro v' w4 hown' hgrow
      have hb4 : Below w2.heap.size w2 w4 := HB3.out.grown hgrow hsz3 (fun r hr => ((HO0.out).lt r hr).1)
      have HO4 := Lib.hid hown'
      have HB4 := Lib.hid hb4
      have hsz4 := hb4.size
      clear hown' hb4 hgrow y4
      go_wp2_with (at_builtin; refine wpList_append_own _ rfl _ _ 22 rfl w2.heap.size 3 i0 (.int .i64 0) 1 8 Try.underlying22 HI.out.1 HI.out.2.1 HI.out.2.2.1 HI.out.2.2.2 rfl (by decide) _ _ _ rfl (HO4.out.alloc _) ⟨w4.heap.size, 0, none⟩ 1 1 [.int .i64 x] rfl rfl ?c1 ?c2 ?c3 ?c4 ?c5 ?_)
      case c1 => exact cell_one _ _ _
      case c2 => intro v hv; simp at hv; subst hv; rfl
      case c3 => unfold maxLen; omega
      case c4 => omega
      case c5 => simp; omega
      intro v2 w5 hown' hgrow _
      have hb5 : Below w2.heap.size w2 w5 := (HB4.out.alloc hsz4 (.cells #[.int .i64 x] 3)).grown hgrow (by simp; omega) (fun r hr => ((HO4.out.alloc (.cells #[.int .i64 x] 3)).lt r hr).1)
      rw [show fs.map (Value.int .i64) ++ [.int .i64 x] = (fs ++ [x]).map (Value.int .i64) by simp] at hown'
      obtain ⟨q, d, rfl⟩ := pl_own_form hown'
      have HO5 := Lib.hid hown'
      have HB5 := Lib.hid hb5
      have HZ5 := Lib.hid (varN_B hb5 HZ2.out)
      have HA5 := Lib.hid (varN_B hb5 HA2.out)
      obtain ⟨z0, -⟩ := HA5.out 0 _ rfl
      obtain ⟨z1, -⟩ := HA5.out 1 _ rfl
      obtain ⟨z2, -⟩ := HA5.out 2 _ rfl
      obtain ⟨z3, g3⟩ := HA5.out 3 _ rfl
      obtain ⟨x0, f0⟩ := HZ5.out 0 _ rfl
      obtain ⟨x1, f1⟩ := HZ5.out 1 _ rfl
      obtain ⟨x2, f2⟩ := HZ5.out 2 _ rfl
      obtain ⟨x3, f3⟩ := HZ5.out 3 _ rfl
      clear hown' hb5 hgrow
      go_wp2
      have HZ6 := varN_all (xs := [.int .i64 s, .int .i64 b, .int .i64 m, .slice q (n + 1) d]) (varN_other HZ5.out (g' := w.heap.size) (by omega) (o := 3) (.slice q (n + 1) d)) rfl
      refine bp_cell_tmp ⟨w.heap.size + 1, 0, none⟩ rfl rfl rfl (plLoad HZ6) ?_
      have hcd := pl_own_cap HO5.out
      obtain ⟨q', d', e', hs⟩ := ownsRow_slF HO5.out
      injection e' with e1 e2 e3
      subst e1 e3
      have hs4 := slF_set hs ⟨w.heap.size, 3, none⟩ (show w.heap.size < w2.heap.size by omega) (.slice q (n + 1) d)
      have hb6 : Below w.heap.size w (w5.setCell ⟨w.heap.size, 3, none⟩ (.slice q (n + 1) d)) := (HB2.out.trans (HB5.out.mono HB2.out.size)).setCell (p := ⟨w.heap.size, 3, none⟩) (Nat.le_refl _) _
      exact plPost2_mk HT.out (by simp [Hn.out]) hcd (Nat.le_of_lt (Nat.lt_of_succ_lt hsz)) (pl_slF4 hsz hs4) (pl_below4 (Nat.le_succ _) hb6)

def plSame (p r : Pl4) : Bool := p.s == r.s && p.b == r.b && p.m == r.m && sameB p.fs r.fs
set_option maxHeartbeats 4000000 in
theorem plSame_any (s b m s' b' m' : Int) (a a' : Option Addr) (n c n' c' : Nat) (fs fs' : List Int) (w : World) (S : Sl w a n fs) (S' : Sl w a' n' fs') (hn : n ≤ 1000) :
    Calls Try.prog 13 #[.agg #[.int .i64 s, .int .i64 b, .int .i64 m, .slice a n c], .agg #[.int .i64 s', .int .i64 b', .int .i64 m', .slice a' n' c']] w (BoolPost (plSame ⟨s, b, m, fs⟩ ⟨s', b', m', fs'⟩) w) := by
  obtain ⟨r, hr⟩ : ∃ r, sameB fs fs' = r := ⟨_, rfl⟩
  have H := Lib.hid (show plSame ⟨s, b, m, fs⟩ ⟨s', b', m', fs'⟩ = (s == s' && b == b' && m == m' && r) by rw [← hr]; rfl)
  have HR := Lib.hid hr
  clear hr
  cases h1 : s == s' with
  | false =>
    have HF := Lib.hid (show plSame ⟨s, b, m, fs⟩ ⟨s', b', m', fs'⟩ = false by rw [H.out, h1]; rfl)
    go_enter Try.func13, Try.ntmps13
    go_wp2
    go_ret
    exact boolPost_mk HF.out (by go_grown)
  | true =>
    cases h2 : b == b' with
    | false =>
      have HF := Lib.hid (show plSame ⟨s, b, m, fs⟩ ⟨s', b', m', fs'⟩ = false by rw [H.out, h1, h2]; rfl)
      go_enter Try.func13, Try.ntmps13
      go_wp2
      go_ret
      exact boolPost_mk HF.out (by go_grown)
    | true =>
      cases h3 : m == m' with
      | false =>
        have HF := Lib.hid (show plSame ⟨s, b, m, fs⟩ ⟨s', b', m', fs'⟩ = false by rw [H.out, h1, h2, h3]; rfl)
        go_enter Try.func13, Try.ntmps13
        go_wp2
        go_ret
        exact boolPost_mk HF.out (by go_grown)
      | true =>
        have HF := Lib.hid (show plSame ⟨s, b, m, fs⟩ ⟨s', b', m', fs'⟩ = r by rw [H.out, h1, h2, h3]; rfl)
        go_enter Try.func13, Try.ntmps13
        go_wp2_with fail
        refine (Ints_any a a' n c n' c' fs fs' _ (slA _ (slA _ S)) (slA _ (slA _ S')) (by omega)).mono ?_
        rw [HR.out]
        rintro e w1 ⟨rfl, hb⟩
        have HB := Lib.hid (below_from (by go_grown) hb : Below w.heap.size w w1)
        clear hb
        go_wp2
        go_ret
        exact boolPost_mk HF.out HB.out

set_option maxHeartbeats 4000000 in
theorem plFew_any (s b m : Int) (a : Option Addr) (n c : Nat) (hcap : CapOk a n c) (w : World) :
    Calls Try.prog 7 #[.agg #[.int .i64 s, .int .i64 b, .int .i64 m, .slice a n c]] w fun e w' => e = .returned (.agg #[.int .i64 s, .int .i64 b, .int .i64 m, .slice a (min n 20) c]) ∧ Below w.heap.size w w' := by
  have hc1 := hcap.1
  have hc2 := hcap.2.1
  have hA := varN_new [.int .i64 s, .int .i64 b, .int .i64 m, .slice a n c] (t := 24) (w := w) w.heap.size rfl
  have hZ := varN_new [.int .i64 0, .int .i64 0, .int .i64 0, .slice none 0 0] (t := 24) (w := w.alloc (.cells #[.int .i64 s, .int .i64 b, .int .i64 m, .slice a n c] 24)) (w.heap.size + 1) (by simp)
  obtain ⟨W, hW⟩ : ∃ W, (w.alloc (.cells #[.int .i64 s, .int .i64 b, .int .i64 m, .slice a n c] 24)).alloc (.cells #[.int .i64 0, .int .i64 0, .int .i64 0, .slice none 0 0] 24) = W := ⟨_, rfl⟩
  have HA := Lib.hid (show VarN W w.heap.size [.int .i64 s, .int .i64 b, .int .i64 m, .slice a n c] by rw [← hW]; exact varN_A _ hA)
  have HZ := Lib.hid (show VarN W (w.heap.size + 1) [.int .i64 0, .int .i64 0, .int .i64 0, .slice none 0 0] by rw [← hW]; exact hZ)
  have HB := Lib.hid (show Below w.heap.size w W by rw [← hW]; go_grown)
  have HW := Lib.hid hW
  have HC := Lib.hid hcap
  obtain ⟨k, hk⟩ : ∃ k, min n 20 = k := ⟨_, rfl⟩
  have HK := Lib.hid hk
  have hk1 : k ≤ n := by omega
  have hmin : min (n : Int) 20 = (k : Int) := by omega
  rw [hk]
  clear hA hZ hW hk
  obtain ⟨x0, f0⟩ := HZ.out 0 _ rfl
  obtain ⟨x1, f1⟩ := HZ.out 1 _ rfl
  obtain ⟨x2, f2⟩ := HZ.out 2 _ rfl
  obtain ⟨x3, f3⟩ := HZ.out 3 _ rfl
  obtain ⟨z0, g0⟩ := HA.out 0 _ rfl
  obtain ⟨z1, g1⟩ := HA.out 1 _ rfl
  obtain ⟨z2, g2⟩ := HA.out 2 _ rfl
  obtain ⟨z3, g3⟩ := HA.out 3 _ rfl
  cases a with
  | none =>
    obtain rfl : c = 0 := hcap.2.2 rfl
    obtain rfl : n = 0 := by omega
    obtain rfl : k = 0 := by omega
    clear hcap
    go_enter Try.func7, Try.ntmps7
    go_upto_region 1 with fail
    rw [HW.out]
    go_wp2
    have HZ3 := varN_all (xs := [.int .i64 s, .int .i64 b, .int .i64 m, .slice none 0 0]) (varN_other HZ.out (g' := w.heap.size) (by omega) (o := 3) (.slice none 0 0)) rfl
    refine bp_cell ⟨w.heap.size + 1, 0, none⟩ rfl rfl rfl (plLoad HZ3) ?_
    exact ⟨rfl, pl_below4 (Nat.le_succ _) (HB.out.setCell (p := ⟨w.heap.size, 3, none⟩) (Nat.le_refl _) _)⟩
  | some p =>
    clear hcap
    go_enter Try.func7, Try.ntmps7
    go_upto_region 1 with fail
    rw [HW.out]
    go_wp2
    have HZ3 := varN_all (xs := [.int .i64 s, .int .i64 b, .int .i64 m, .slice (some p) k c]) (varN_other HZ.out (g' := w.heap.size) (by omega) (o := 3) (.slice (some p) k c)) rfl
    refine bp_cell ⟨w.heap.size + 1, 0, none⟩ rfl rfl rfl (plLoad HZ3) ?_
    exact ⟨rfl, pl_below4 (Nat.le_succ _) (HB.out.setCell (p := ⟨w.heap.size, 3, none⟩) (Nat.le_refl _) _)⟩

theorem plNew_it : plNew 2 10 3 = (⟨2, 10, 3, [14, 12, 10]⟩, 0) := by rfl
theorem plTake_it : plTake ⟨2, 10, 3, [14, 12, 10]⟩ = (⟨2, 10, 3, [14, 12]⟩, 10, 0) := by rfl
set_option maxHeartbeats 4000000 in
theorem plAlive_any (w : World) : Calls Try.prog 11 #[] w (BoolPost true w) := by
  go_enter Try.func11, Try.ntmps11
  go_wp2_with fail
  refine (plNew_any 2 10 3 _).mono ?_
  rw [plNew_it]
  rintro e w1 ⟨q, c, rfl, hc, hs, hb⟩
  have hc : CapOk q 3 c := hc
  have hs : SlF w.heap.size w1 q 3 [14, 12, 10] := hs
  simp only [List.length_cons, List.length_nil, Nat.zero_add, Nat.reduceAdd]
  have hA := varN_new [.int .i64 2, .int .i64 10, .int .i64 3, .slice q 3 c] (t := 24) (w := w1) w1.heap.size rfl
  have HA := Lib.hid hA
  have HS := Lib.hid (slA (.cells #[.int .i64 2, .int .i64 10, .int .i64 3, .slice q 3 c] 24) hs.sl)
  have HC := Lib.hid hc
  have HZ := Lib.hid hb.size
  have HB := Lib.hid (hb.alloc hb.size (.cells #[.int .i64 2, .int .i64 10, .int .i64 3, .slice q 3 c] 24))
  clear hA hs hc hb
  go_wp2_with fail
  refine (plTake_any 2 10 3 q 3 c _ _ HS.out (by omega) HC.out).mono ?_
  rw [plTake_it]
  rintro e w2 ⟨q2, c2, rfl, -, -, hb2⟩
  have HA2 := Lib.hid (varN_B hb2 HA.out)
  have HB2 := Lib.hid (HB.out.trans (hb2.mono HB.out.size))
  simp only [List.length_cons, List.length_nil, Nat.zero_add, Nat.reduceAdd]
  obtain ⟨x0, f0⟩ := HA2.out 0 _ rfl
  obtain ⟨x1, f1⟩ := HA2.out 1 _ rfl
  obtain ⟨x2, f2⟩ := HA2.out 2 _ rfl
  obtain ⟨x3, f3⟩ := HA2.out 3 _ rfl
  have HS1 := Lib.hid (show w.heap.size ≤ w1.heap.size from HZ.out)
  clear hb2
  go_wp2
  go_ret
  exact boolPost_mk rfl (pl_below4 HS1.out HB2.out)
end Go.Proofs.Ytnkhgofpdgnemaa
