/- Contracts of package tso: misses, slices.IndexFunc, ContainsFunc, right, has. -/
import Derived.Test.YteojpdhmhjoeiaaMemC
import Derived.Test.YteojpdhmhjoeiaaBaseT
import Derived.Test.YteojpdhmhjoeiaaRefN
namespace Go.Proofs.Yteojpdhmhjoeiaa
open Go.ChangeShapes Go.WideShapes Go.ChangeAt Go.RowKit

theorem ret_val {a b : Value} (h : a = b) : Ending.returned a = .returned b := by rw [h]

theorem tsoMisses_any (a a' q : Option Addr) (n c n' c' l d : Nat) (D x y : Int) (w : World) :
    Calls Try.prog 71 #[.agg #[.slice a n c, .slice a' n' c', .int .i64 D, .slice q l d], .agg #[.int .i64 x, .int .i64 y]] w (BoolPost (!(inP n (x, y))) w) := by
  have H := Lib.hid (show inP n (x, y) = decide (0 ≤ x ∧ x < n) from rfl)
  by_cases h1 : 0 ≤ x
  · have q1 : decide (x < 0) = false := by simp; omega
    go_enter Try.func71, Try.ntmps71
    go_wp2
    go_ret
    exact boolPost_mk (by rw [H.out, Bool.eq_iff_iff]; simp; omega) (by go_grown)
  · have q1 : decide (x < 0) = true := by simp; omega
    go_enter Try.func71, Try.ntmps71
    go_wp2
    go_ret
    exact boolPost_mk (by rw [H.out]; simp [h1]) (by go_grown)

def IdxPost (t : Bool) (w : World) (e : Ending) (w' : World) : Prop := ∃ i : Int, e = .returned (.int .i64 i) ∧ decide (0 ≤ i) = t ∧ Below w.heap.size w w'
theorem idxPost_mk {t : Bool} {w w' : World} {i : Int} (h : decide (0 ≤ i) = t) (hb : Below w.heap.size w w') : IdxPost t w (.returned (.int .i64 i)) w' := ⟨i, rfl, h, hb⟩
theorem all_put {N : Nat} {b : List (Int × Int)} {k : Nat} (hk : k < b.length) (h : inP N (b.getD k (0, 0)) = false) : b.all (inP N) = false := by
  have e : b.getD k (0, 0) = b[k] := by simp [hk]
  rw [e] at h
  exact List.all_eq_false.2 ⟨b[k], List.getElem_mem hk, by rw [h]; decide⟩
theorem all_done {N : Nat} {b : List (Int × Int)} (h : PutsTo N b b.length) : b.all (inP N) = true := by
  simp only [List.all_eq_true]
  intro p hp
  obtain ⟨i, hi, rfl⟩ := List.mem_iff_getElem.1 hp
  have := h i hi
  simpa [hi] using this

set_option maxHeartbeats 2000000 in
theorem idxMiss_any (p : Option Addr) (m mc : Nat) (ps : List (Int × Int)) (a a' q : Option Addr) (n c n' c' l d : Nat) (D : Int) (w : World) (S : Pl w p m ps) (hm : m ≤ 9223372036854775807) :
    Calls Try.prog 92 #[.slice p m mc, .func (.func 71) #[.agg #[.slice a n c, .slice a' n' c', .int .i64 D, .slice q l d]] #[]] w (IdxPost (!(ps.all (inP n))) w) := by
  have Hn := Lib.hid S.1
  go_enter Try.func92, Try.ntmps92
  go_wp2
  go_loopw [8] (fun s wr => ∃ k : Nat, k ≤ m ∧ s = .int .i64 k ∧ Hid (PutsTo n ps k) ∧ Below w.heap.size w wr) (fun s _ => m - (intOf s).toNat)
  case atStart => exact ⟨0, by omega, rfl, by intro j hj; omega, Below.refl _ _⟩
  case round =>
    obtain ⟨k, hk, rfl, hs, hb⟩ := hrel
    by_cases hlt : k < m
    · obtain ⟨b, o, rfl, R⟩ := S.2.resolve_left (by omega)
      have g := R k (by rw [Hn.out]; exact hlt)
      have g1 := cellB hb g.1
      have g2 := cellB hb g.2
      obtain ⟨x, hx⟩ : ∃ x, ps.getD k (0, 0) = x := ⟨_, rfl⟩
      rw [hx] at g1 g2
      obtain ⟨x1, x2⟩ := x
      have HX := Lib.hid hx
      have HB := Lib.hid hb
      dsimp only at g1 g2
      have i1 : (0 : Int) ≤ k := by omega
      have i2 : (k : Int) < m := by omega
      clear g hx hb
      cases hin : inP n (x1, x2) with
      | true =>
        have HS := Lib.hid (putsTo_succ hs.out (by rw [HX.out]; exact hin))
        have HI := Lib.hid hin
        clear hin
        go_wp2_with (go_at_call 71; refine (tsoMisses_any a a' q n c n' c' l d D x1 x2 _).mono ?_; rw [HI.out]; rintro e w1 ⟨rfl, hb1⟩; have HB1 := Lib.hid (below_from HB.out hb1); clear hb1)
        go_roundw
        case rel => exact ⟨k + 1, by omega, by go_num, HS.out, HB1.out⟩
        case measure => simp [intOf]; omega
      | false =>
        have HS := Lib.hid (all_put (N := n) (b := ps) (k := k) (by rw [Hn.out]; exact hlt) (by rw [HX.out]; exact hin))
        have HI := Lib.hid hin
        clear hin
        go_wp2_with (go_at_call 71; refine (tsoMisses_any a a' q n c n' c' l d D x1 x2 _).mono ?_; rw [HI.out]; rintro e w1 ⟨rfl, hb1⟩; have HB1 := Lib.hid (below_from HB.out hb1); clear hb1)
        go_ret
        exact idxPost_mk (by rw [HS.out]; simp) HB1.out
    · obtain rfl : k = m := by omega
      have HS := Lib.hid (all_done (N := n) (b := ps) (by rw [Hn.out]; exact hs.out))
      have HB := Lib.hid hb
      clear hb
      go_wp2
      go_ret
      exact idxPost_mk (by rw [HS.out]; rfl) HB.out

set_option maxHeartbeats 2000000 in
theorem containsMiss_any (p : Option Addr) (m mc : Nat) (ps : List (Int × Int)) (a a' q : Option Addr) (n c n' c' l d : Nat) (D : Int) (w : World) (S : Pl w p m ps) (hm : m ≤ 9223372036854775807) :
    Calls Try.prog 70 #[.slice p m mc, .func (.func 71) #[.agg #[.slice a n c, .slice a' n' c', .int .i64 D, .slice q l d]] #[]] w (BoolPost (!(ps.all (inP n))) w) := by
  go_enter Try.func70, Try.ntmps70
  go_wp2_with fail
  refine (idxMiss_any p m mc ps a a' q n c n' c' l d D _ S hm).mono ?_
  rintro e w1 ⟨i, rfl, ht, hb⟩
  have HT := Lib.hid ht
  have HB := Lib.hid hb
  clear ht hb
  go_wp2
  go_ret
  exact boolPost_mk HT.out.symm HB.out

set_option maxHeartbeats 4000000 in
theorem tsoRight_any (a a' q : Option Addr) (n c n' c' l d : Nat) (ws ts : List Int) (D : Int) (bs : List (List (Int × Int))) (w : World) (S1 : Sl w a n ws) (S2 : Sl w a' n' ts) (S : Bl w q l bs) :
    Calls Try.prog 50 #[.agg #[.slice a n c, .slice a' n' c', .int .i64 D, .slice q l d]] w (BoolPost (mayT ws ts D bs) w) := by
  have Hn := Lib.hid S1.1
  have Hl := Lib.hid S.1
  have hmf : ∀ (fn : Fn) (first cap : Array Value) (w : World), (Instr.makeFunc fn first cap).run Try.prog w = .ok (.func fn first cap) w := fun _ _ _ _ => rfl
  cases hm : mayB ws ts with
  | false =>
    have HM := Lib.hid hm
    have HT := Lib.hid (show mayT ws ts D bs = false by simp [mayT, hm])
    clear hm
    go_enter Try.func50, Try.ntmps50
    go_wp2_with fail
    refine (Right_any a a' n c n' c' ws ts _ (slA _ S1) (slA _ S2)).mono ?_
    rintro e w1 ⟨rfl, hb⟩
    rw [HM.out]
    have HB := Lib.hid (below_from (by go_grown) hb : Below w.heap.size w w1)
    clear hb
    go_wp2
    go_ret
    exact boolPost_mk HT.out HB.out
  | true =>
    have HM := Lib.hid hm
    clear hm
    by_cases hs : sizesB l D = true
    · have hs' : sizesB bs.length D = true := by rw [Hl.out]; exact hs
      have HS := Lib.hid hs'
      simp only [sizesB, decide_eq_true_eq] at hs
      obtain ⟨s1, s2, s3, s4⟩ := hs
      have s1' : 1 ≤ l := by omega
      have s2' : l ≤ 8 := by omega
      clear hs'
      go_enter Try.func50, Try.ntmps50
      go_wp2_with fail
      refine (Right_any a a' n c n' c' ws ts _ (slA _ S1) (slA _ S2)).mono ?_
      rintro e w1 ⟨rfl, hb⟩
      rw [HM.out]
      have hb1 : Below w.heap.size w w1 := below_from (by go_grown) hb
      have c0 : w1.cell? ⟨w.heap.size, 0, none⟩ = some (.slice a n c) := cellB hb (by simp)
      have c1 : w1.cell? ⟨w.heap.size, 1, none⟩ = some (.slice a' n' c') := cellB hb (by simp)
      have c2 : w1.cell? ⟨w.heap.size, 2, none⟩ = some (.int .i64 D) := cellB hb (by simp)
      have c3 : w1.cell? ⟨w.heap.size, 3, none⟩ = some (.slice q l d) := cellB hb (by simp)
      have HB1 := Lib.hid hb1
      have S' := blB hb1 S
      clear hb hb1
      go_wp2
      go_loopw [38] (fun s wr => ∃ k : Nat, k ≤ l ∧ s = .int .i64 k ∧ Hid (BufsTo ws.length D bs k) ∧ Below w1.heap.size w1 wr) (fun s _ => l - (intOf s).toNat)
      case atStart => exact ⟨0, by omega, rfl, by intro j hj; omega, Below.refl _ _⟩
      case round =>
        obtain ⟨k, hk, rfl, hr, hb⟩ := hrel
        have c0' := cellB hb c0
        have c1' := cellB hb c1
        have c2' := cellB hb c2
        have c3' := cellB hb c3
        have HB := Lib.hid hb
        by_cases hlt : k < l
        · obtain ⟨b, o, p, pc, rfl, k0, hcap, hp⟩ := bl_at (blB hb S') hlt
          obtain ⟨x, hx⟩ : ∃ x, bs.getD k [] = x := ⟨_, rfl⟩
          rw [hx] at k0 hp hcap
          have HX := Lib.hid hx
          obtain ⟨m, hm⟩ : ∃ m, x.length = m := ⟨_, rfl⟩
          rw [hm] at k0 hp hcap
          have HM := Lib.hid hm
          have hcap1 := hcap.1
          have hcap2 := hcap.2.1
          have i1 : (0 : Int) ≤ k := by omega
          have i2 : (k : Int) < l := by omega
          clear hx hm hb hcap
          by_cases hD : D < m
          · have HF := Lib.hid (mayT_buf (ws := ws) (ts := ts) (D := D) (bs := bs) (k := k) (by rw [Hl.out]; exact hlt) (by rw [HX.out]; simp [bufB, HM.out]; omega))
            go_wp2
            go_ret
            exact boolPost_mk HF.out (HB1.out.trans (HB.out.mono HB1.out.size))
          · have hD' : (m : Int) ≤ D := by omega
            cases hin : x.all (inP n) with
            | false =>
              have HF := Lib.hid (mayT_buf (ws := ws) (ts := ts) (D := D) (bs := bs) (k := k) (by rw [Hl.out]; exact hlt) (by rw [HX.out, Hn.out]; simp only [bufB]; rw [hin]; simp))
              have HI := Lib.hid hin
              clear hin
              go_wp2_with (go_at_call 70; refine (containsMiss_any p m pc x a a' (some ⟨b, o, none⟩) n c n' c' l d D _ hp (by omega)).mono ?_; rw [HI.out]; rintro e w2 ⟨rfl, hb2⟩; have HB2 := Lib.hid (below_from HB.out hb2); clear hb2)
              go_ret
              exact boolPost_mk HF.out (HB1.out.trans (HB2.out.mono HB1.out.size))
            | true =>
              have HF := Lib.hid (bufsTo_succ hr.out (by rw [HX.out, Hn.out]; simp only [bufB, HM.out]; rw [hin]; simpa using hD'))
              have HI := Lib.hid hin
              clear hin
              go_wp2_with (go_at_call 70; refine (containsMiss_any p m pc x a a' (some ⟨b, o, none⟩) n c n' c' l d D _ hp (by omega)).mono ?_; rw [HI.out]; rintro e w2 ⟨rfl, hb2⟩; have HB2 := Lib.hid (below_from HB.out hb2); clear hb2)
              go_roundw
              case rel => exact ⟨k + 1, by omega, by go_num, HF.out, HB2.out⟩
              case measure => simp [intOf]; omega
        · obtain rfl : k = l := by omega
          have HF := Lib.hid (mayT_done HM.out HS.out (by rw [Hl.out]; exact hr.out))
          clear hb
          go_wp2
          go_ret
          exact boolPost_mk HF.out (HB1.out.trans (HB.out.mono HB1.out.size))
    · have HT := Lib.hid (show mayT ws ts D bs = false by
        have : sizesB bs.length D = false := by rw [Hl.out]; simpa using hs
        simp [mayT, this])
      have hs' : ¬ ((1 : Int) ≤ l ∧ (l : Int) ≤ 8 ∧ 0 ≤ D ∧ D ≤ 8) := by simpa [sizesB] using hs
      clear hs
      go_enter Try.func50, Try.ntmps50
      go_wp2_with fail
      refine (Right_any a a' n c n' c' ws ts _ (slA _ S1) (slA _ S2)).mono ?_
      rintro e w1 ⟨rfl, hb⟩
      rw [HM.out]
      have hb1 : Below w.heap.size w w1 := below_from (by go_grown) hb
      have c2 : w1.cell? ⟨w.heap.size, 2, none⟩ = some (.int .i64 D) := cellB hb (by simp)
      have c3 : w1.cell? ⟨w.heap.size, 3, none⟩ = some (.slice q l d) := cellB hb (by simp)
      have HB1 := Lib.hid hb1
      clear hb hb1
      by_cases d0 : D < 0
      · go_wp2
        go_ret
        exact boolPost_mk HT.out HB1.out
      · by_cases d1 : 8 < D
        · go_wp2
          go_ret
          exact boolPost_mk HT.out HB1.out
        · by_cases d2 : (l : Int) < 1
          · go_wp2
            go_ret
            exact boolPost_mk HT.out HB1.out
          · have d3 : 8 < (l : Int) := by omega
            go_wp2
            go_ret
            exact boolPost_mk HT.out HB1.out

set_option maxHeartbeats 4000000 in
theorem tsoHas_any (a a' q : Option Addr) (n c n' c' l d : Nat) (ws ts : List Int) (D th : Int) (bs : List (List (Int × Int))) (w : World) (S1 : Sl w a n ws) (S2 : Sl w a' n' ts) (S : Bl w q l bs) :
    Calls Try.prog 22 #[.agg #[.slice a n c, .slice a' n' c', .int .i64 D, .slice q l d], .int .i64 th] w (BoolPost (mayT ws ts D bs && thB bs th) w) := by
  have Hl := Lib.hid S.1
  have HT := Lib.hid (show thB bs th = decide (0 ≤ th ∧ th < l) by rw [thB, Hl.out])
  cases hm : mayT ws ts D bs with
  | false =>
    have HM := Lib.hid hm
    clear hm
    go_enter Try.func22, Try.ntmps22
    go_wp2_with fail
    refine (tsoRight_any a a' q n c n' c' l d ws ts D bs _ (slA _ S1) (slA _ S2) (blA _ S)).mono ?_
    rintro e w1 ⟨rfl, hb⟩
    rw [HM.out]
    have HB := Lib.hid (below_from (by go_grown) hb : Below w.heap.size w w1)
    clear hb
    go_wp2
    go_ret
    exact boolPost_mk (by simp) HB.out
  | true =>
    have HM := Lib.hid hm
    clear hm
    by_cases h0 : 0 ≤ th
    all_goals
      have q0 : decide (0 ≤ th) = decide (0 ≤ th) := rfl
      go_enter Try.func22, Try.ntmps22
      go_wp2_with fail
      refine (tsoRight_any a a' q n c n' c' l d ws ts D bs _ (slA _ S1) (slA _ S2) (blA _ S)).mono ?_
      rintro e w1 ⟨rfl, hb⟩
      rw [HM.out]
      have c3 : w1.cell? ⟨w.heap.size, 3, none⟩ = some (.slice q l d) := cellB hb (by simp)
      have HB := Lib.hid (below_from (by go_grown) hb : Below w.heap.size w w1)
      clear hb q0
      go_wp2
      go_ret
      exact boolPost_mk (by rw [HT.out, Bool.eq_iff_iff]; simp; try omega) HB.out
end Go.Proofs.Yteojpdhmhjoeiaa
