/- The law PoolApart, walked. -/
import Derived.Test.YtnkhgofpdgnemaaPlN
namespace Go.Proofs.Ytnkhgofpdgnemaa
open Go.ChangeShapes Go.WideShapes Go.ChangeAt Go.RowKit Gen

set_option maxRecDepth 100000 in
set_option maxHeartbeats 16000000 in
theorem PoolApart_walk (s b m n turn : Int) (w : World) :
    Calls Try.prog 5 #[.int .i64 s, .int .i64 b, .int .i64 m, .int .i64 n, .int .i64 turn] w fun e w' => e = .returned (.bool true) ∧ Below w.heap.size w w' := by
  cases hf : plFit s b m with
  | false =>
    have HT := Lib.hid (show plNew s b m = (pl0, 1) by simp [plNew, hf])
    clear hf
    go_enter Try.func5, Try.ntmps5
    go_wp2_with fail
    refine (plNew_any s b m _).mono ?_
    rw [HT.out]
    rintro e w1 ⟨q, d, rfl, -, hs, hb1⟩
    dsimp only [pl0, List.length_nil]
    have HB2 := Lib.hid (hb1.alloc hb1.size (.cells #[.int .i64 0, .int .i64 0, .int .i64 0, .slice q 0 d] 24))
    have HV := Lib.hid (varN_new [.int .i64 0, .int .i64 0, .int .i64 0, .slice q 0 d] (t := 24) (w := w1) w1.heap.size rfl)
    clear hs hb1
    go_wp2_with fail
    refine (plAlive_any _).mono ?_
    rintro e w3 ⟨rfl, hb3⟩
    obtain ⟨u3, -⟩ := varN_B hb3 HV.out 3 _ rfl
    have HB3 := Lib.hid (HB2.out.trans (hb3.mono HB2.out.size))
    clear hb3
    go_wp2
    go_ret
    exact ⟨rfl, HB3.out⟩
  | true =>
    have hb := plFit_iff.1 hf
    obtain ⟨N, hN⟩ : ∃ N : Nat, m = N := ⟨m.toNat, by omega⟩
    subst hN
    obtain ⟨g1, g2, -, g4, g5, g6, g7⟩ := hb
    have hN16 : N ≤ 16 := by omega
    have hNN : ((N : Int)).toNat = N := by omega
    have HF := Lib.hid hf
    have HT := Lib.hid (show plNew s b N = (⟨s, b, N, plRv s b N N⟩, 0) by rw [plNew, if_pos hf, hNN, plRv_all])
    obtain ⟨K, hK⟩ : ∃ K : Nat, ((n.tmod ((N : Int) + 1)) + N + 1).tmod ((N : Int) + 1) = K := by
      have h1 := Int.tmod_lt_of_pos n (show (0 : Int) < (N : Int) + 1 by omega)
      have h2 : -((N : Int) + 1) < n.tmod ((N : Int) + 1) := Int.lt_tmod_of_pos _ (by omega)
      have h3 := Int.tmod_nonneg ((N : Int) + 1) (a := n.tmod ((N : Int) + 1) + N + 1) (by omega)
      exact ⟨_, (Int.toNat_of_nonneg h3).symm⟩
    have hKN : K ≤ N := by
      have := Int.tmod_lt_of_pos ((n.tmod ((N : Int) + 1)) + N + 1) (show (0 : Int) < (N : Int) + 1 by omega)
      omega
    have hn1 := Int.tmod_lt_of_pos n (show (0 : Int) < (N : Int) + 1 by omega)
    have hn2 : -((N : Int) + 1) < n.tmod ((N : Int) + 1) := Int.lt_tmod_of_pos _ (by omega)
    clear hf
    go_enter Try.func5, Try.ntmps5
    go_wp2_with fail
    refine (plNew_any s b N _).mono ?_
    rw [HT.out]
    rintro e w1 ⟨q, d, rfl, hcd, hs, hb1⟩
    dsimp only at hcd hs ⊢
    rw [plRv_len (Nat.le_refl _)] at hcd hs ⊢
    obtain ⟨w2, hw2⟩ : ∃ w2, w1.alloc (.cells #[.int .i64 s, .int .i64 b, .int .i64 N, .slice q N d] 24) = w2 := ⟨_, rfl⟩
    have hb2 : Below w.heap.size w w2 := by rw [← hw2]; exact hb1.alloc hb1.size _
    have HV := Lib.hid (show VarN w2 w1.heap.size [.int .i64 s, .int .i64 b, .int .i64 N, .slice q N d] by rw [← hw2]; exact varN_new [.int .i64 s, .int .i64 b, .int .i64 N, .slice q N d] _ rfl)
    have HS := Lib.hid (show SlP (fun b => b ≠ w1.heap.size) w2 q N (plRv s b N N) by rw [← hw2]; exact slPA _ (slP_old (fun b hb => by omega) hs.sl))
    have HG := Lib.hid (show w.heap.size ≤ w1.heap.size from hb1.size)
    have HB2 := Lib.hid hb2
    have HC := Lib.hid hcd
    have HW2 := Lib.hid hw2
    clear hw2 hb1 hb2 hs hcd
    go_upto_region 4 with fail
    rw [HW2.out]
    go_wp2_with fail
    refine (plAlive_any _).mono ?_
    rintro e w3 ⟨rfl, hb3⟩
    have HV3 := Lib.hid (varN_B hb3 HV.out)
    have HS3 := Lib.hid (slPB hb3 HS.out)
    have HB3 := Lib.hid (HB2.out.trans (hb3.mono HB2.out.size))
    have HGs := Lib.hid (varN_lt HV3.out (by simp))
    clear hb3
    go_upto_region 7 with fail
    obtain ⟨X, hX⟩ : ∃ X, s * (N : Int) = X := ⟨_, rfl⟩
    have hXb := pl_area g1 g2 (show (0 : Int) ≤ N by omega) g4
    rw [hX] at hXb g7
    have hwX : wrap64 (s * (N : Int)) = X := by rw [hX]; exact IntWalk.wrap64_in _ (by omega)
    have HX := Lib.hid hX
    have HNN := Lib.hid hNN
    obtain ⟨i0, hi, hz0, hz1, hz2⟩ := info_parts Try.info3
    have HI := Lib.hid (And.intro hi (And.intro hz0 (And.intro hz1 hz2)))
    clear hi hz0 hz1 hz2 hX hNN hK hn1 hn2
    go_wp2
    go_loopw [13, 74] (fun v ct wr => ∃ (i j : Nat) (q : Option Addr) (d : Nat) (tq : Option Addr) (td : Nat), i + j = N ∧ i ≤ K ∧ ct = .int .i64 i ∧ v = .slice tq i td ∧ Hid (VarN wr w1.heap.size [.int .i64 s, .int .i64 b, .int .i64 N, .slice q j d]) ∧ Hid (SlP (fun b => b ≠ w1.heap.size) wr q j (plRv s b N j)) ∧ Hid (CapOk q j d) ∧ Hid (wr.ownsRow w3.heap.size 3 1 (.slice tq i td) i ((plBl s b i).map (Value.int .i64))) ∧ Hid (Below w.heap.size w wr) ∧ Hid (w3.heap.size ≤ wr.heap.size)) (fun _ ct _ => K - (intOf ct).toNat)
    case atStart => exact ⟨0, N, q, d, none, 0, by omega, by omega, rfl, rfl, HV3.out, HS3.out, HC.out, World.ownsRow_nil _ _ _ _, HB3.out, Nat.le_refl _⟩
    case round =>
      obtain ⟨i, j, q, d, tq, td, hij, hiK, rfl, rfl, hV, hS, hC, hT, hB, hsz⟩ := hrel
      by_cases hlt : i < K
      · cases j with
        | zero => omega
        | succ j =>
          have hp := pl_place HF.out (show (i : Int) < N by omega)
          have HTK := Lib.hid (plTake_rv HF.out (i := i) (j := j) (by rw [HNN.out]; exact hij))
          rw [HNN.out] at HTK
          rw [HX.out] at hp
          obtain ⟨y, hy⟩ : ∃ y, (i : Int) * s = y := ⟨_, rfl⟩
          rw [hy] at hp HTK
          obtain ⟨p1, p2, p3, p4, p5⟩ := hp
          have HY := Lib.hid hy
          have i2 : (i : Int) < K := by omega
          have hg := varN_lt hV.out (by simp)
          obtain ⟨wo, hwo⟩ : ∃ wo, wo = wr := ⟨_, rfl⟩
          subst hwo
          obtain ⟨u0, -⟩ := hV.out 0 _ rfl
          obtain ⟨u1, -⟩ := hV.out 1 _ rfl
          obtain ⟨u2, -⟩ := hV.out 2 _ rfl
          obtain ⟨u3, -⟩ := hV.out 3 _ rfl
          clear hy
          go_wp2_with fail
          refine (plTake_any s b N q (j + 1) d (plRv s b N (j + 1)) _ hS.out.sl (by omega) hC.out).mono ?_
          rw [HTK.out]
          rintro e w9 ⟨q9, d9, rfl, hc9, hs9, hb9⟩
          dsimp only at hc9 hs9 ⊢
          rw [plRv_len (show j ≤ N by omega)] at hc9 hs9 ⊢
          obtain ⟨w10, hw10⟩ : ∃ w10, w9.alloc (.cells #[.int .i64 s, .int .i64 b, .int .i64 N, .slice q9 j d9] 24) = w10 := ⟨_, rfl⟩
          have hb10 : Below wo.heap.size wo w10 := by rw [← hw10]; exact hb9.alloc hb9.size _
          have HN := Lib.hid (show VarN w10 w9.heap.size [.int .i64 s, .int .i64 b, .int .i64 N, .slice q9 j d9] by rw [← hw10]; exact varN_new [.int .i64 s, .int .i64 b, .int .i64 N, .slice q9 j d9] _ rfl)
          have HSN := Lib.hid (show SlF wo.heap.size w10 q9 j (plRv s b N j) by rw [← hw10]; exact slF_alloc _ hs9)
          have HV10 := Lib.hid (varN_B hb10 hV.out)
          have HB10 := Lib.hid (hB.out.trans (hb10.mono hB.out.size))
          have HT10 := Lib.hid (Gen.own_below hT.out hb10)
          have HSZ10 := Lib.hid (Nat.le_trans hsz.out hb10.size)
          have HTL := Lib.hid hT.out
          have HC9 := Lib.hid hc9
          have HW10 := Lib.hid hw10
          have HST := Lib.hid (show Sl w10 tq i (plBl s b i) by
            obtain ⟨q', d', e', hs⟩ := ownsRow_slF HT10.out
            injection e' with e1 e2 e3
            subst e1
            exact hs.sl)
          have HLT9 := Lib.hid (show wo.heap.size ≤ w9.heap.size from hb9.size)
          clear hw10 hb10 hb9 hs9 hc9 u0 u1 u2 u3
          go_upto_region 11 with fail
          rw [HW10.out]
          go_wp2
          go_loopw [102] (fun ct wr => ∃ k : Nat, k ≤ i ∧ ct = .int .i64 k ∧ wr = w10) (fun ct _ => i - (intOf ct).toNat)
          case atStart => exact ⟨0, by omega, rfl, rfl⟩
          case round =>
            obtain ⟨k, hk, rfl, hwk⟩ := hrel
            have hwk2 := hwk.symm
            clear hwk
            subst hwk2
            by_cases hlt2 : k < i
            · have hp' := pl_place HF.out (show (k : Int) < N by omega)
              have hml := pl_mul_lt g1 hlt2
              rw [HY.out] at hml
              have hgt := plBl_get (s := s) (b := b) hlt2
              obtain ⟨z, hz⟩ : ∃ z, (k : Int) * s = z := ⟨_, rfl⟩
              rw [hz] at hp' hml hgt
              obtain ⟨r1, r2, r3, r4, -⟩ := hp'
              obtain ⟨bb, oo, htq, R⟩ := HST.out.2.resolve_left (by omega)
              subst htq
              have gy := R k (by rw [plBl_length]; exact hlt2)
              rw [hgt] at gy
              have k0 : (0 : Int) ≤ k := by omega
              have k1 : (k : Int) < i := by omega
              clear hz hgt R
              go_wp2
              go_roundw
              case rel => exact ⟨k + 1, by omega, by go_num, trivial⟩
              case measure => simp [intOf]; omega
            · obtain rfl : k = i := by omega
              go_wp2_with (at_builtin; refine wpList_append_own _ rfl _ _ 22 rfl w3.heap.size 3 i0 (.int .i64 0) 1 8 Try.underlying22 HI.out.1 HI.out.2.1 HI.out.2.2.1 HI.out.2.2.2 rfl (by decide) _ _ _ rfl (HT10.out.alloc _) ⟨w10.heap.size, 0, none⟩ 1 1 [.int .i64 (b + y)] rfl rfl ?c1 ?c2 ?c3 ?c4 ?c5 ?_)
              case c1 => exact cell_one _ _ _
              case c2 => intro v hv; simp at hv; subst hv; rfl
              case c3 => unfold maxLen; omega
              case c4 => omega
              case c5 => have := HSZ10.out; simp; omega
              intro v' w11 hown' hgrow _
              have hlow : ∀ r, (Value.slice tq k td).ownBlock = some r → w3.heap.size ≤ r ∧ r < wo.heap.size := fun r hr => HTL.out.lt r hr
              have hG := HGs.out
              have hZ10 := HSZ10.out
              have HB11 := Lib.hid (show Below w.heap.size w w11 from (HB10.out.alloc HB10.out.size (.cells #[.int .i64 (b + y)] 3)).grown hgrow (by have := HB10.out.size; simp; omega) (fun r hr => by have := hlow r hr; have := HB3.out.size; omega))
              have HV11 := Lib.hid (varN_grown hgrow (fun e => by have := (hlow _ e).1; omega) (varN_A (.cells #[.int .i64 (b + y)] 3) HV10.out))
              have HN11 := Lib.hid (varN_grown hgrow (fun e => by have := (hlow _ e).2; have := HLT9.out; omega) (varN_A (.cells #[.int .i64 (b + y)] 3) HN.out))
              have HS11 := Lib.hid (slF_grown hgrow (fun r hr => (hlow r hr).2) (slF_alloc (.cells #[.int .i64 (b + y)] 3) HSN.out))
              have HZ11 := Lib.hid (show w3.heap.size ≤ w11.heap.size by have := hgrow.size; simp at this; omega)
              rw [show (plBl s b k).map (Value.int .i64) ++ [.int .i64 (b + y)] = (plBl s b (k + 1)).map (Value.int .i64) by rw [plBl_succ, HY.out]; simp] at hown'
              obtain ⟨q', d', rfl⟩ := pl_own_form hown'
              have HO11 := Lib.hid hown'
              clear hown' hgrow hlow hG hZ10
              obtain ⟨u0, f0⟩ := HV11.out 0 _ rfl
              obtain ⟨u1, f1⟩ := HV11.out 1 _ rfl
              obtain ⟨u2, f2⟩ := HV11.out 2 _ rfl
              obtain ⟨u3, f3⟩ := HV11.out 3 _ rfl
              obtain ⟨v0, -⟩ := HN11.out 0 _ rfl
              obtain ⟨v1, -⟩ := HN11.out 1 _ rfl
              obtain ⟨v2, -⟩ := HN11.out 2 _ rfl
              obtain ⟨v3, -⟩ := HN11.out 3 _ rfl
              go_wp2
              have hV12 := varN_all (xs := [.int .i64 s, .int .i64 b, .int .i64 N, .slice q9 j d9]) HV11.out rfl
              have hS12 := pl_slP4 (g := w1.heap.size) (x := .int .i64 s) (y := .int .i64 b) (z := .int .i64 N) (u := .slice q9 j d9) (fun _ h => h) (slP_slF (Q := fun b => b ≠ w1.heap.size) (fun b hb => by omega) HS11.out)
              have hB12 := pl_below4 (g := w1.heap.size) (x := .int .i64 s) (y := .int .i64 b) (z := .int .i64 N) (u := .slice q9 j d9) HG.out HB11.out
              have hT12 := own_setN (g := w1.heap.size) (us := [.int .i64 s, .int .i64 b, .int .i64 N, .slice q9 j d9]) (k := 0) (fun e => by have := (HO11.out.lt _ e).1; have := HGs.out; omega) HO11.out
              have hZ12 : w3.heap.size ≤ (((((w11.setCell ⟨w1.heap.size, 0, none⟩ (.int .i64 s)).setCell ⟨w1.heap.size, 1, none⟩ (.int .i64 b)).setCell ⟨w1.heap.size, 2, none⟩ (.int .i64 N)).setCell ⟨w1.heap.size, 3, none⟩ (.slice q9 j d9))).heap.size := by have := HZ11.out; simpa using this
              go_roundw
              case rel => exact ⟨k + 1, j, q9, d9, q', d', by omega, by omega, by go_num, rfl, hV12, hS12, HC9.out, hT12, hB12, hZ12⟩
              case measure => simp [intOf]; omega
      · obtain rfl : i = K := by omega
        obtain rfl : j = N - i := by omega
        have HT0 := Lib.hid (show SlP (fun b => b ≠ w1.heap.size) wr tq i (plBl s b i) by
          obtain ⟨q', d', e', hs⟩ := ownsRow_slF hT.out
          injection e' with e1 e2 e3
          subst e1
          exact slP_slF (fun b hb => by have := HGs.out; omega) hs)
        have HZ := Lib.hid (plHeldZ_rv HF.out (K := i) (by rw [HNN.out]; exact hKN))
        rw [HNN.out] at HZ
        have hii : ((i : Int) != i) = false := by simp
        obtain ⟨u0, -⟩ := hV.out 0 _ rfl
        obtain ⟨u1, -⟩ := hV.out 1 _ rfl
        obtain ⟨u2, -⟩ := hV.out 2 _ rfl
        obtain ⟨u3, -⟩ := hV.out 3 _ rfl
        go_wp2_with fail
        refine (plHeldF_any s b N q (N - i) d (plRv s b N (N - i)) _ hS.out.sl (by omega)).mono ?_
        rw [HZ.out]
        rintro e w20 ⟨qh, dh, rfl, hsh, hb20⟩
        dsimp only at hsh ⊢
        rw [plBl_length] at hsh ⊢
        have HV20 := Lib.hid (varN_B hb20 hV.out)
        have HS20 := Lib.hid (slPB hb20 hS.out)
        have HT20 := Lib.hid (slPB hb20 HT0.out)
        have HB20 := Lib.hid (hB.out.trans (hb20.mono hB.out.size))
        have HSH := Lib.hid hsh.sl
        clear hb20 hsh u0 u1 u2 u3
        go_wp2
        go_loopw [140] (fun ct wr => ∃ k : Nat, k ≤ i ∧ ct = .int .i64 k ∧ wr = w20) (fun ct _ => i - (intOf ct).toNat)
        case atStart => exact ⟨0, by omega, rfl, rfl⟩
        case round =>
          obtain ⟨k, hk, rfl, hwk⟩ := hrel
          have hwk2 := hwk.symm
          clear hwk
          subst hwk2
          by_cases hlt2 : k < i
          · have hgt := plBl_get (s := s) (b := b) hlt2
            have HH := Lib.hid (show plHas (plBl s b i) (b + (k : Int) * s) = true from plHas_iff.2 (plBl_mem.2 ⟨k, hlt2, rfl⟩))
            obtain ⟨z, hz⟩ : ∃ z, (k : Int) * s = z := ⟨_, rfl⟩
            rw [hz] at hgt HH
            obtain ⟨bb, oo, htq, -, R⟩ := HT20.out.2.resolve_left (by omega)
            subst htq
            have gy := R k (by rw [plBl_length]; exact hlt2)
            rw [hgt] at gy
            have k0 : (0 : Int) ≤ k := by omega
            have k1 : (k : Int) < i := by omega
            clear hz hgt R
            go_wp2_with (go_at_call 22; refine (plHas_any qh i dh (plBl s b i) (b + z) _ HSH.out (by omega)).mono ?_; rw [HH.out]; rintro e wq ⟨rfl, hwq⟩; have hwq2 := hwq.symm; clear hwq; subst hwq2)
            go_roundw
            case rel => exact ⟨k + 1, by omega, by go_num, trivial⟩
            case measure => simp [intOf]; omega
          · obtain rfl : k = i := by omega
            go_wp2
            go_loopw [150] (fun ct wr => ∃ (i : Nat) (q : Option Addr) (d : Nat), i ≤ k ∧ ct = .int .i64 i ∧ Hid (VarN wr w1.heap.size [.int .i64 s, .int .i64 b, .int .i64 N, .slice q (N - k + i) d]) ∧ Hid (SlP (fun b => b ≠ w1.heap.size) wr q (N - k + i) (plRv s b N (N - k) ++ plGn s b k (turn.tmod 16) i)) ∧ Hid (CapOk q (N - k + i) d) ∧ Hid (SlP (fun b => b ≠ w1.heap.size) wr tq k (plBl s b k)) ∧ Hid (Below w.heap.size w wr)) (fun ct _ => k - (intOf ct).toNat)
            case atStart => exact ⟨0, q, d, by omega, rfl, HV20.out, by rw [show plGn s b k (turn.tmod 16) 0 = [] from rfl, List.append_nil]; exact HS20.out, hC.out, HT20.out, HB20.out⟩
            case round =>
              obtain ⟨i, q, d, hi, rfl, hV, hS, hC, hT, hB⟩ := hrel
              by_cases hlt : i < k
              · have ht1 := Int.tmod_lt_of_pos turn (show (0 : Int) < 16 by omega)
                have ht2 : -(16 : Int) < turn.tmod 16 := Int.lt_tmod_of_pos _ (by omega)
                have hIx := plIdx_go (show 0 < k by omega) (turn.tmod 16) i
                have hIl := plIdx_lt (show 0 < k by omega) (turn.tmod 16) i
                have hq1 := Int.tmod_lt_of_pos ((i : Int) + turn.tmod 16) (show (0 : Int) < (k : Int) by omega)
                have hq2 : -(k : Int) < ((i : Int) + turn.tmod 16).tmod k := Int.lt_tmod_of_pos _ (by omega)
                have HG1 := Lib.hid (plGive_gn HF.out (K := k) (i := i) (by rw [HNN.out]; exact hKN) hlt (turn.tmod 16))
                have HG2 := Lib.hid (plGive_gn2 HF.out (K := k) (i := i) (by rw [HNN.out]; exact hKN) hlt (turn.tmod 16))
                rw [HNN.out] at HG1 HG2
                have hln1 : (plRv s b N (N - k) ++ plGn s b k (turn.tmod 16) (i + 1)).length = N - k + (i + 1) := by rw [List.length_append, plRv_len (by omega), plGn_len]
                have HLN := Lib.hid hln1
                obtain ⟨f0, hf0⟩ : ∃ f0, plRv s b N (N - k) ++ plGn s b k (turn.tmod 16) i = f0 := ⟨_, rfl⟩
                obtain ⟨f1, hf1⟩ : ∃ f1, plRv s b N (N - k) ++ plGn s b k (turn.tmod 16) (i + 1) = f1 := ⟨_, rfl⟩
                rw [hf0] at HG1 hS
                rw [hf1] at HG1 HG2 HLN
                have HF1 := Lib.hid hf1
                clear hln1 hf0 hf1
                obtain ⟨ix, hix⟩ : ∃ ix, plIdx k (turn.tmod 16) i = ix := ⟨_, rfl⟩
                rw [hix] at hIx hIl HG1 HG2
                have hgt := plBl_get (s := s) (b := b) hIl
                obtain ⟨z, hz⟩ : ∃ z, (ix : Int) * s = z := ⟨_, rfl⟩
                rw [hz] at hgt HG1 HG2
                obtain ⟨bb, oo, htq, -, R⟩ := hT.out.2.resolve_left (by omega)
                subst htq
                have gy := R ix (by rw [plBl_length]; exact hIl)
                rw [hgt] at gy
                have k0 : (0 : Int) ≤ i := by omega
                have k1 : (i : Int) < k := by omega
                have k2 : (k : Int) ≠ 0 := by omega
                have x0 : (0 : Int) ≤ ix := by omega
                have x1 : (ix : Int) < k := by omega
                have hg := varN_lt hV.out (by simp)
                obtain ⟨wo, hwo⟩ : ∃ wo, wo = wr := ⟨_, rfl⟩
                subst hwo
                obtain ⟨u0, -⟩ := hV.out 0 _ rfl
                obtain ⟨u1, -⟩ := hV.out 1 _ rfl
                obtain ⟨u2, -⟩ := hV.out 2 _ rfl
                obtain ⟨u3, -⟩ := hV.out 3 _ rfl
                clear hz hgt R hix
                go_wp2_with fail
                refine (plGive_any s b N q (N - k + i) d f0 (b + z) _ hS.out.sl (by omega) hC.out).mono ?_
                rw [HG1.out]
                rintro e w21 ⟨q1, d1, rfl, hc1, hs1, hb1⟩
                dsimp only at hc1 hs1 ⊢
                rw [HLN.out] at hc1 hs1 ⊢
                obtain ⟨w22, hw22⟩ : ∃ w22, w21.alloc (.cells #[.int .i64 s, .int .i64 b, .int .i64 N, .slice q1 (N - k + (i + 1)) d1] 24) = w22 := ⟨_, rfl⟩
                have hb22 : Below wo.heap.size wo w22 := by rw [← hw22]; exact hb1.alloc hb1.size _
                have HN22 := Lib.hid (show VarN w22 w21.heap.size [.int .i64 s, .int .i64 b, .int .i64 N, .slice q1 (N - k + (i + 1)) d1] by rw [← hw22]; exact varN_new [.int .i64 s, .int .i64 b, .int .i64 N, .slice q1 (N - k + (i + 1)) d1] _ rfl)
                have HS22 := Lib.hid (show SlP (fun b => b ≠ w1.heap.size) w22 q1 (N - k + (i + 1)) f1 by rw [← hw22]; exact slPA _ (slP_slF (fun b hb => by omega) hs1))
                have HV22 := Lib.hid (varN_B hb22 hV.out)
                have HT22 := Lib.hid (slPB hb22 hT.out)
                have HB22 := Lib.hid (hB.out.trans (hb22.mono hB.out.size))
                have HC1 := Lib.hid hc1
                have HW22 := Lib.hid hw22
                clear hw22 hb22 hb1 hs1 hc1 u0 u1 u2 u3 gy
                go_upto_region 36 with fail
                rw [HW22.out]
                obtain ⟨v0, -⟩ := HN22.out 0 _ rfl
                obtain ⟨v1, -⟩ := HN22.out 1 _ rfl
                obtain ⟨v2, -⟩ := HN22.out 2 _ rfl
                obtain ⟨v3, -⟩ := HN22.out 3 _ rfl
                go_wp2_with fail
                refine (plGive_any s b N q1 (N - k + (i + 1)) d1 f1 (b + z) _ HS22.out.sl (by omega) HC1.out).mono ?_
                rw [HG2.out]
                rintro e w23 ⟨q3, d3, rfl, -, -, hb3⟩
                dsimp only [pl0, List.length_nil]
                obtain ⟨w24, hw24⟩ : ∃ w24, w23.alloc (.cells #[.int .i64 0, .int .i64 0, .int .i64 0, .slice q3 0 d3] 24) = w24 := ⟨_, rfl⟩
                have hb24 : Below w22.heap.size w22 w24 := by rw [← hw24]; exact hb3.alloc hb3.size _
                have HN24 := Lib.hid (varN_B hb24 HN22.out)
                have HS24 := Lib.hid (slPB hb24 HS22.out)
                have HV24 := Lib.hid (varN_B hb24 HV22.out)
                have HT24 := Lib.hid (slPB hb24 HT22.out)
                have HB24 := Lib.hid (HB22.out.trans (hb24.mono HB22.out.size))
                have HW24 := Lib.hid hw24
                clear hw24 hb24 hb3 v0 v1 v2 v3
                go_upto_region 39 with fail
                rw [HW24.out]
                obtain ⟨u0, f0⟩ := HV24.out 0 _ rfl
                obtain ⟨u1, f1⟩ := HV24.out 1 _ rfl
                obtain ⟨u2, f2⟩ := HV24.out 2 _ rfl
                obtain ⟨u3, f3⟩ := HV24.out 3 _ rfl
                obtain ⟨v0, -⟩ := HN24.out 0 _ rfl
                obtain ⟨v1, -⟩ := HN24.out 1 _ rfl
                obtain ⟨v2, -⟩ := HN24.out 2 _ rfl
                obtain ⟨v3, -⟩ := HN24.out 3 _ rfl
                go_wp2
                have hV12 := varN_all (xs := [.int .i64 s, .int .i64 b, .int .i64 N, .slice q1 (N - k + (i + 1)) d1]) HV24.out rfl
                have hS12 := pl_slP4 (g := w1.heap.size) (x := .int .i64 s) (y := .int .i64 b) (z := .int .i64 N) (u := .slice q1 (N - k + (i + 1)) d1) (fun _ h => h) HS24.out
                have hT12 := pl_slP4 (g := w1.heap.size) (x := .int .i64 s) (y := .int .i64 b) (z := .int .i64 N) (u := .slice q1 (N - k + (i + 1)) d1) (fun _ h => h) HT24.out
                have hB12 := pl_below4 (g := w1.heap.size) (x := .int .i64 s) (y := .int .i64 b) (z := .int .i64 N) (u := .slice q1 (N - k + (i + 1)) d1) HG.out HB24.out
                go_roundw
                case rel => exact ⟨i + 1, q1, d1, by omega, by go_num, hV12, by rw [HF1.out]; exact hS12, HC1.out, hT12, hB12⟩
                case measure => simp [intOf]; omega
              · obtain rfl : i = k := by omega
                have HDN := Lib.hid (plHeldZ_done HF.out (K := i) (by rw [HNN.out]; exact hKN) (turn.tmod 16))
                rw [HNN.out] at HDN
                have hNi : N - i + i = N := by omega
                rw [hNi] at hV hS hC
                obtain ⟨u0, -⟩ := hV.out 0 _ rfl
                obtain ⟨u1, -⟩ := hV.out 1 _ rfl
                obtain ⟨u2, -⟩ := hV.out 2 _ rfl
                obtain ⟨u3, -⟩ := hV.out 3 _ rfl
                go_wp2_with fail
                refine (plHeldF_any s b N q N d _ _ hS.out.sl (by omega)).mono ?_
                rw [HDN.out]
                rintro e w30 ⟨qe, de, rfl, -, hb30⟩
                dsimp only [List.length_nil]
                obtain ⟨v3, -⟩ := varN_B hb30 hV.out 3 _ rfl
                have HB30 := Lib.hid (hB.out.trans (hb30.mono hB.out.size))
                clear hb30 u0 u1 u2 u3
                go_wp2
                go_ret
                exact ⟨rfl, HB30.out⟩
end Go.Proofs.Ytnkhgofpdgnemaa
