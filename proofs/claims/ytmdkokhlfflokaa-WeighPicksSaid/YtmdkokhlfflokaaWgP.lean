/- The walk of WeighPicks, over what package weigh must answer. -/
import Derived.Test.YtmdkokhlfflokaaWgE
import Derived.Deep.CutBlock
namespace Go.Proofs.Ytmdkokhlfflokaa
open Go.ChangeShapes Go.WideShapes Go.ChangeAt Go.RowKit
open Gen
/-- is one of the first ones no place? -/
def outTo (ps : List Int) (m : Int) (k : Nat) : Bool := (ps.take k).any fun p => decide (p < 0) || decide (m ≤ p)
theorem outTo_succ {ps : List Int} {k : Nat} {x : Int} (h : ps[k]? = some x) (m : Int) : outTo ps m (k + 1) = (outTo ps m k || decide (x < 0) || decide (m ≤ x)) := by
  obtain ⟨hk, rfl⟩ := List.getElem?_eq_some_iff.1 h
  rw [outTo, List.take_succ_eq_append_getElem hk, List.any_append, outTo]
  simp [Bool.or_assoc]
theorem outTo_all {ps : List Int} {n : Nat} (hn : ps.length = n) (m : Int) : (ps.all fun p => decide (0 ≤ p ∧ p < m)) = !outTo ps m n := by
  rw [outTo, List.take_of_length_le (by omega), List.not_any_eq_all_not]
  congr 1
  funext p
  rw [Bool.eq_iff_iff]
  first
    | (simp; done)
    | (simp; omega)
theorem acts_len (ps : List Int) : (actsF ps).length = 2 * ps.length := by
  induction ps with
  | nil => rfl
  | cons p ps ih => show (actsF (p :: ps)).length = _; simp only [actsF, List.flatMap_cons] at ih ⊢; simp [ih]; omega
theorem acts_at : ∀ {ps : List Int} {k : Nat} {p : Int}, ps[k]? = some p → (actsF ps)[2 * k]? = some (0, p) ∧ (actsF ps)[2 * k + 1]? = some (1, p)
  | [], k, p, h => by simp at h
  | x :: ps, 0, p, h => by
    obtain rfl : x = p := by simpa using h
    exact ⟨rfl, rfl⟩
  | x :: ps, k + 1, p, h => by
    obtain ⟨h1, h2⟩ := acts_at (ps := ps) (k := k) (p := p) (by simpa using h)
    have e : actsF (x :: ps) = (0, x) :: (1, x) :: actsF ps := rfl
    rw [e]
    refine ⟨?_, ?_⟩
    · rw [show 2 * (k + 1) = 2 * k + 1 + 1 by omega, List.getElem?_cons_succ, List.getElem?_cons_succ]; exact h1
    · rw [show 2 * (k + 1) + 1 = 2 * k + 1 + 1 + 1 by omega, List.getElem?_cons_succ, List.getElem?_cons_succ]; exact h2
theorem vs_sl10 {Q : Nat → Prop} {w : World} {a : Option Addr} {n : Nat} {zs : List Int} (h : Vs repInt Q w a n zs) : Sl w a n zs := by
  obtain ⟨h1, h2⟩ := h
  refine ⟨h1, h2.imp id ?_⟩
  rintro ⟨b, o, e, _, f⟩
  refine ⟨b, o, e, fun i hi => ?_⟩
  have h5 := f i _ (List.getElem?_eq_getElem hi)
  rw [show repInt.k = 1 from rfl, Nat.mul_one] at h5
  rw [at_int h5]; simp [hi]
def CutP (w : World) (p : Option Addr) (m c : Nat) (q : Option Addr) (k d : Nat) (s0 s2 : Value) (wx : World) : Prop := s0 = .slice p m c ∧ s2 = .slice q k d ∧ Below w.heap.size w wx

set_option maxRecDepth 100000 in
set_option maxHeartbeats 8000000 in
theorem Picks10_walk (W : WeighOk) (p : Option Addr) (n c : Nat) (zs : List Nat) (N : Int) (q : Option Addr) (k d : Nat) (ps : List Int) (M : Int) (w : World) (hnc : n ≤ c) (hc : c ≤ 9223372036854775807) (hp : p = none → c = 0) (V : Vs repFl Any w p n zs) (hz : ∀ z ∈ zs, FlWf z)
    (hkd : k ≤ d) (hd : d ≤ 9223372036854775807) (hq : q = none → d = 0) (VP : Vs repInt Any w q k ps) :
    Calls Try.prog 5 #[.slice p n c, .int .i64 N, .slice q k d, .int .i64 M] w (BoolPost true w) := by
  have hfew : ∀ e, Calls Try.prog 7 #[.slice p n c] (w.drewN e) (fun z w' => z = .returned (.slice p (min n 12) c) ∧ w' = w.drewN e) := fun e => few10_any p n c _ hnc hc
  obtain ⟨m, hm⟩ : ∃ m, min n 12 = m := ⟨_, rfl⟩
  rw [hm] at hfew
  have VT := vs_und (vs_take V m (by omega))
  have hwz : ∀ x ∈ zs.take m, FlWf x := fun x hx => hz x (List.mem_of_mem_take hx)
  obtain ⟨ws, hws⟩ : ∃ ys, zs.take m = ys := ⟨_, rfl⟩
  rw [hws] at VT hwz
  obtain ⟨k1, hk1⟩ : ∃ m, min k 50 = m := ⟨_, rfl⟩
  have VQ := vs_und (vs_take VP k1 (by omega))
  obtain ⟨ys, hys⟩ : ∃ ys, ps.take k1 = ys := ⟨_, rfl⟩
  rw [hys] at VQ
  have hm12 : m ≤ 12 := by omega
  have hmc : m ≤ c := by omega
  have hk50 : k1 ≤ 50 := by omega
  have hk1d : k1 ≤ d := by omega
  have HK1 := Lib.hid hk1
  have HV := Lib.hid VT
  have HVP := Lib.hid VQ
  have HYL := Lib.hid VQ.1
  have HWZ := Lib.hid hwz
  have HPK := Lib.hid (fun u (h : Vs repFl Any u p m ws) => W.picks p m c ws N u h hwz (by omega) hmc hc hp)
  have HSH := Lib.hid (fun u (h : Vs repInt Any u q k1 ys) => W.shares q k1 d ys M u h (by omega) hk1d hd hq)
  have HAC := Lib.hid (fun u (h : Vs repInt Any u q k1 ys) => W.acts q k1 d ys u h (by omega) hk1d hd hq)
  have HAL := Lib.hid (fun u => alive10_any W u)
  clear hm VT hwz hws V hz W hp hk1 VQ VP hys hq
  go_enter Try.func5, Try.ntmps5
  go_upto_region 1 with fail
  go_cut [0, 2] (fun s0 s2 wx => CutP w p m c q k1 d s0 s2 wx)
  case first =>
    by_cases h50 : k ≤ 50
    · have q0 : ¬ (50 : Int) < (k : Int) := by omega
      have q1 : (k : Int) ≤ d := by omega
      go_quiet ((go_at_call 7; exact Calls.quiet_of_same (hfew _)))
      go_wp2_with fail
      go_meet
      have HH := HK1.out
      exact ⟨rfl, by congr 1; omega, below_drewN (Below.refl _ _) nq⟩
    · have q0 : (50 : Int) < (k : Int) := by omega
      have q1 : (50 : Int) ≤ d := by omega
      have q2 : 50 ≤ d := by omega
      go_quiet ((go_at_call 7; exact Calls.quiet_of_same (hfew _)))
      go_wp2_with fail
      go_meet
      have HH := HK1.out
      exact ⟨rfl, by congr 1; omega, below_drewN (Below.refl _ _) nq⟩
  case rest =>
    obtain ⟨rfl, rfl, hbc⟩ := hcut
    obtain ⟨w0, hw0⟩ : ∃ x, x = wc := ⟨_, rfl⟩
    subst hw0
    have HB0 := Lib.hid hbc
    have HV0 := Lib.hid (vs_any (vs_keep (kept_low hbc (fun _ h => h.2)) HV.out))
    have HP0 := Lib.hid (vs_any (vs_keep (kept_low hbc (fun _ h => h.2)) HVP.out))
    have h0 := HPK.out w0 HV0.out
    obtain ⟨E, hE⟩ : ∃ E, pkE m ws N = E := ⟨_, rfl⟩
    obtain ⟨l, hl⟩ : ∃ l, pkL m ws N = l := ⟨_, rfl⟩
    rw [hE, hl] at h0
    have HH0 := Lib.hid h0
    have HE := Lib.hid hE
    have HL := Lib.hid hl
    clear h0 hE hl hbc hfew
    go_wp2_with fail
    refine HH0.out.mono ?_
    rintro e w1 ⟨la, lc, rfl, -, -, -, VL, hb1⟩
    obtain ⟨ll, hll⟩ : ∃ n, l.length = n := ⟨_, rfl⟩
    rw [hll] at VL ⊢
    have HLL := Lib.hid hll
    have HVL := Lib.hid VL
    have HB1 := Lib.hid hb1
    have h2 := HSH.out w1 (vs_B hb1 HP0.out)
    obtain ⟨F, hF⟩ : ∃ E, shE ys M = E := ⟨_, rfl⟩
    obtain ⟨sl, hsl⟩ : ∃ l, shL ys M = l := ⟨_, rfl⟩
    rw [hF, hsl] at h2
    have HH2 := Lib.hid h2
    have HF := Lib.hid hF
    have HSL := Lib.hid hsl
    clear hll VL hb1 h2 hF hsl
    go_wp2_with fail
    refine HH2.out.mono ?_
    rintro e w2 ⟨sa, sc, rfl, -, -, -, VS, hb2⟩
    obtain ⟨sn, hsn⟩ : ∃ n, sl.length = n := ⟨_, rfl⟩
    rw [hsn] at VS ⊢
    have HSN := Lib.hid hsn
    have HVS := Lib.hid VS
    have HB2 := Lib.hid (below_from HB1.out hb2)
    have HVL2 := Lib.hid (vs_B hb2 HVL.out)
    have h3 := HAC.out w2 (vs_B HB2.out HP0.out)
    have HH3 := Lib.hid h3
    clear hsn VS hb2 h3
    go_wp2_with fail
    refine HH3.out.mono ?_
    rintro e w3 ⟨aa, ac, rfl, -, -, VA, hb3⟩
    have HVA := Lib.hid VA
    have HB3 := Lib.hid (below_from HB2.out hb3)
    have HVL3 := Lib.hid (vs_B hb3 HVL2.out)
    have HVS3 := Lib.hid (vs_B hb3 HVS.out)
    have q0 : (((2 * k1 : Nat) : Int) != 2 * (k1 : Int)) = false := by simp
    clear VA hb3
    go_wp2_with fail
    refine (HAL.out _).mono ?_
    rintro e w4 ⟨rfl, hb4⟩
    have HB4 := Lib.hid (below_from HB3.out hb4)
    have HVA4 := Lib.hid (vs_B hb4 HVA.out)
    have HVL4 := Lib.hid (vs_B hb4 HVL3.out)
    have HVS4 := Lib.hid (vs_B hb4 HVS3.out)
    have HP4 := Lib.hid (vs_B (below_from HB3.out hb4) HP0.out)
    have HV4 := Lib.hid (vs_B (below_from HB3.out hb4) HV0.out)
    clear hb4 q0
    go_wp2_with fail
    go_loopw [14, 50] (fun ov i wr => ∃ j : Nat, j ≤ k1 ∧ i = .int .i64 j ∧ ov = .bool (outTo ys M j) ∧ wr = w4) (fun _ i _ => k1 - (intOf i).toNat)
    case atStart => exact ⟨0, Nat.zero_le _, rfl, rfl, rfl⟩
    case round =>
      obtain ⟨j, hj, rfl, rfl, hwr⟩ := hrel
      subst hwr
      by_cases hlt : j < k1
      · obtain ⟨b, o, x, rfl, hx, -, hat⟩ := vs_at HP4.out hlt
        have g0 := at_int hat
        rw [show repInt.k = 1 from rfl, Nat.mul_one] at g0
        obtain ⟨a0, a1⟩ := acts_at hx
        obtain ⟨b2, o2, y0, rfl, hy0, -, t0⟩ := vs_at HVA4.out (i := 2 * j) (by omega)
        obtain ⟨_, _, y1, e1, hy1, -, t1⟩ := vs_at HVA4.out (i := 2 * j + 1) (by omega)
        cases e1
        obtain rfl : y0 = (0, x) := by rw [a0] at hy0; exact (Option.some.inj hy0).symm
        obtain rfl : y1 = (1, x) := by rw [a1] at hy1; exact (Option.some.inj hy1).symm
        obtain ⟨u0, u1⟩ := at_int2 t0
        obtain ⟨u2, u3⟩ := at_int2 t1
        rw [show repInt2.k = 2 from rfl] at u0 u1 u2 u3
        have HN := Lib.hid (outTo_succ hx M)
        have i1 : (0 : Int) ≤ j := by omega
        have i2 : (j : Int) < k1 := by omega
        clear hx hat a0 a1 hy0 hy1 t0 t1
        obtain ⟨ob, hob⟩ : ∃ b, outTo ys M j = b := ⟨_, rfl⟩
        rw [hob] at HN ⊢
        clear hob
        cases ob with
        | true =>
          have HR := Lib.hid (show outTo ys M (j + 1) = true by rw [HN.out]; rfl)
          clear HN
          go_wp2_with fail
          go_roundw
          case rel => exact ⟨j + 1, by omega, by go_num, by rw [HR.out], trivial⟩
          case measure => simp [intOf]; omega
        | false =>
          by_cases l1 : x < 0
          · have HR := Lib.hid (show outTo ys M (j + 1) = true by rw [HN.out, decide_eq_true l1]; rfl)
            clear HN
            go_wp2_with fail
            go_roundw
            case rel => exact ⟨j + 1, by omega, by go_num, by rw [HR.out], trivial⟩
            case measure => simp [intOf]; omega
          · by_cases l2 : M ≤ x
            · have HR := Lib.hid (show outTo ys M (j + 1) = true by rw [HN.out, decide_eq_true l2, decide_eq_false l1]; rfl)
              clear HN
              go_wp2_with fail
              go_roundw
              case rel => exact ⟨j + 1, by omega, by go_num, by rw [HR.out], trivial⟩
              case measure => simp [intOf]; omega
            · have HR := Lib.hid (show outTo ys M (j + 1) = false by rw [HN.out, decide_eq_false l2, decide_eq_false l1]; rfl)
              clear HN
              go_wp2_with fail
              go_roundw
              case rel => exact ⟨j + 1, by omega, by go_num, by rw [HR.out], trivial⟩
              case measure => simp [intOf]; omega
      · obtain rfl : j = k1 := by omega
        clear hlt hj
        obtain ⟨ob, hob⟩ : ∃ b, outTo ys M j = b := ⟨_, rfl⟩
        have HOB := Lib.hid hob
        rw [hob]
        clear hob
        go_upto_block 2 with fail
        go_cut [10] (fun s10 wx => s10 = .int .i64 E ∧ Below wr.heap.size wr wx)
        case first =>
          by_cases m1 : M < 0
          · have hf : shE ys M = 2 := if_pos (.inl m1)
            obtain rfl : F = 2 := by rw [← HF.out, hf]
            obtain rfl : sn = 0 := by rw [← HSN.out, ← HSL.out, shL, hf]; rfl
            clear hf
            go_wp2_with fail
            go_meet
            exact ⟨rfl, Below.refl _ _⟩
          · by_cases m2 : 8 < M
            · have hf : shE ys M = 2 := if_pos (.inr m2)
              obtain rfl : F = 2 := by rw [← HF.out, hf]
              obtain rfl : sn = 0 := by rw [← HSN.out, ← HSL.out, shL, hf]; rfl
              clear hf
              go_wp2_with fail
              go_meet
              exact ⟨rfl, Below.refl _ _⟩
            · have hall := outTo_all HYL.out M
              rw [HOB.out] at hall
              cases ob with
              | true =>
                have hf : shE ys M = 3 := by rw [shE, if_neg (by omega), hall]; rfl
                obtain rfl : F = 3 := by rw [← HF.out, hf]
                obtain rfl : sn = 0 := by rw [← HSN.out, ← HSL.out, shL, hf]; rfl
                clear hf hall
                go_wp2_with fail
                go_meet
                exact ⟨rfl, Below.refl _ _⟩
              | false =>
                have hf : shE ys M = 0 := by rw [shE, if_neg (by omega), hall]; rfl
                obtain rfl : F = 0 := by rw [← HF.out, hf]
                obtain ⟨mm, rfl⟩ : ∃ n : Nat, M = n := ⟨M.toNat, by omega⟩
                have hsl2 : sl = sharesF ys mm := by rw [← HSL.out, shL, if_pos hf]; rfl
                have hsn2 : sn = mm := by rw [← HSN.out, hsl2]; simp [sharesF]
                have HC := Lib.hid (ref10Shares_any q j d ys mm wr HP4.out (by omega) (by omega))
                have HSE := Lib.hid hsl2
                subst hsn2
                clear hf hall hsl2
                go_wp2_with fail
                refine HC.out.mono ?_
                rintro e w5 ⟨ra, rc, rfl, -, -, -, VR, hb5⟩
                have HB5 := Lib.hid hb5
                have h6 := Ints_any sa ra sn sc sn rc sl (sharesF ys sn) w5 (vs_sl10 (vs_B hb5 HVS4.out)) (vs_sl10 VR) (by omega)
                rw [show sameB sl (sharesF ys sn) = true from decide_eq_true HSE.out] at h6
                have H6 := Lib.hid h6
                clear h6 hb5 VR
                go_wp2_with fail
                refine H6.out.mono ?_
                rintro e w6 ⟨rfl, hb6⟩
                have HB6 := Lib.hid (below_from HB5.out hb6)
                clear hb6
                go_wp2_with fail
                go_meet
                exact ⟨rfl, HB6.out⟩
        case rest =>
          obtain ⟨rfl, hbc⟩ := hcut
          have HB7 := Lib.hid (below_from HB4.out hbc)
          have HVL7 := Lib.hid (vs_B hbc HVL4.out)
          have HV7 := Lib.hid (vs_B hbc HV4.out)
          clear hbc
          obtain ⟨w7, hw7⟩ : ∃ x, x = wc := ⟨_, rfl⟩
          subst hw7
          by_cases n1 : 8 < m
          · have hf : pkE m ws N = 2 := if_pos (.inl n1)
            obtain rfl : E = 2 := by rw [← HE.out, hf]
            obtain rfl : ll = 0 := by rw [← HLL.out, ← HL.out, pkL, hf]; rfl
            have n1' : (8 : Int) < m := by omega
            clear hf
            go_wp2
            go_ret
            exact boolPost_mk rfl (below_from HB0.out HB7.out)
          · have n1' : ¬ (8 : Int) < m := by omega
            by_cases n2 : N < 0
            · have hf : pkE m ws N = 2 := if_pos (.inr (.inl n2))
              obtain rfl : E = 2 := by rw [← HE.out, hf]
              obtain rfl : ll = 0 := by rw [← HLL.out, ← HL.out, pkL, hf]; rfl
              clear hf
              go_wp2
              go_ret
              exact boolPost_mk rfl (below_from HB0.out HB7.out)
            · by_cases n3 : 1000 < N
              · have hf : pkE m ws N = 2 := if_pos (.inr (.inr n3))
                obtain rfl : E = 2 := by rw [← HE.out, hf]
                obtain rfl : ll = 0 := by rw [← HLL.out, ← HL.out, pkL, hf]; rfl
                clear hf
                go_wp2
                go_ret
                exact boolPost_mk rfl (below_from HB0.out HB7.out)
              · obtain ⟨nn, rfl⟩ : ∃ n : Nat, N = n := ⟨N.toNat, by omega⟩
                have HSM := Lib.hid (some_any p m c ws w7 HV7.out HWZ.out (by omega))
                by_cases n4 : 0 < nn ∧ Fl.someB ws = false
                · obtain ⟨n5, n6⟩ := n4
                  have hf : pkE m ws nn = 8 := by rw [pkE, if_neg (by omega), if_pos ⟨by omega, n6⟩]
                  obtain rfl : E = 8 := by rw [← HE.out, hf]
                  obtain rfl : ll = 0 := by rw [← HLL.out, ← HL.out, pkL, hf]; rfl
                  have n7 : (0 : Int) < nn := by omega
                  rw [n6] at HSM
                  clear hf n6
                  go_wp2_with fail
                  refine HSM.out.mono ?_
                  rintro e w8 ⟨rfl, rfl⟩
                  go_wp2
                  go_ret
                  exact boolPost_mk rfl (below_from HB0.out HB7.out)
                · have hso : nn = 0 ∨ Fl.someB ws = true := by
                    by_cases h0 : nn = 0
                    · exact .inl h0
                    · right
                      cases hs : Fl.someB ws with
                      | true => rfl
                      | false => exact absurd ⟨by omega, hs⟩ n4
                  have hf : pkE m ws nn = 0 := by
                    rw [pkE, if_neg (by omega), if_neg]
                    rintro ⟨k1, k2⟩
                    exact n4 ⟨by omega, k2⟩
                  obtain rfl : E = 0 := by rw [← HE.out, hf]
                  have hl2 : l = natsI (Fl.picksF ws nn).1 := by rw [← HL.out, pkL, if_pos hf]; rfl
                  have hn2 : ll = nn := by
                    rw [← HLL.out, hl2, natsI, List.length_map]
                    rcases hso with h | h
                    · subst h; rfl
                    · exact picks_len h nn
                  subst hn2
                  have HC := Lib.hid (ref10Picks_any p m c ws ll w7 HV7.out HWZ.out (by omega) (by omega) hso)
                  have HLE := Lib.hid hl2
                  clear hf hl2 n4
                  by_cases n7 : (0 : Int) < ll
                  · have hs : Fl.someB ws = true := hso.resolve_left (by omega)
                    rw [hs] at HSM
                    clear hso hs
                    go_wp2_with fail
                    refine HSM.out.mono ?_
                    rintro e w8 ⟨rfl, rfl⟩
                    go_wp2_with fail
                    refine HC.out.mono ?_
                    rintro e w9 ⟨ra, rc, rfl, -, -, -, VR, hb9⟩
                    have h6 := Ints_any la ra ll lc ll rc l (natsI (Fl.picksF ws ll).1) w9 (vs_sl10 (vs_B hb9 HVL7.out)) (vs_sl10 VR) (by omega)
                    rw [show sameB l (natsI (Fl.picksF ws ll).1) = true from decide_eq_true HLE.out] at h6
                    have H6 := Lib.hid h6
                    have HB9 := Lib.hid (below_from HB7.out hb9)
                    clear h6 hb9 VR
                    go_wp2_with fail
                    refine H6.out.mono ?_
                    rintro e w10 ⟨rfl, hb10⟩
                    have HB10 := Lib.hid (below_from HB9.out hb10)
                    clear hb10
                    go_wp2
                    go_ret
                    exact boolPost_mk rfl (below_from HB0.out HB10.out)
                  · clear hso
                    go_wp2_with fail
                    refine HC.out.mono ?_
                    rintro e w9 ⟨ra, rc, rfl, -, -, -, VR, hb9⟩
                    have h6 := Ints_any la ra ll lc ll rc l (natsI (Fl.picksF ws ll).1) w9 (vs_sl10 (vs_B hb9 HVL7.out)) (vs_sl10 VR) (by omega)
                    rw [show sameB l (natsI (Fl.picksF ws ll).1) = true from decide_eq_true HLE.out] at h6
                    have H6 := Lib.hid h6
                    have HB9 := Lib.hid (below_from HB7.out hb9)
                    clear h6 hb9 VR
                    go_wp2_with fail
                    refine H6.out.mono ?_
                    rintro e w10 ⟨rfl, hb10⟩
                    have HB10 := Lib.hid (below_from HB9.out hb10)
                    clear hb10
                    go_wp2
                    go_ret
                    exact boolPost_mk rfl (below_from HB0.out HB10.out)
end Go.Proofs.Ytmdkokhlfflokaa
