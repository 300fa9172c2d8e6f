/- The walk of LitmusOrder. -/
import Derived.Test.YtcpebnafoalhnaaLtB
import Derived.Test.YtcpebnafoalhnaaMT
import Derived.Maps.AppendAt
namespace Go.Proofs.Ytcpebnafoalhnaa
open Go.ChangeShapes Go.WideShapes Go.ChangeAt Go.RowKit
open Gen
/-- a test of two threads that are there -/
theorem lit_pair {w W2 : World} {xs ys : List Mv} {W D : Int} {p q : Option Addr} {n c m d : Nat} (h1 : n ≤ c) (h2 : c ≤ 9223372036854775807) (h3 : p = none → c = 0) (V : Vs repInt3 Any w p n xs) (k1 : m ≤ d) (k2 : d ≤ 9223372036854775807) (k3 : q = none → d = 0) (V' : Vs repInt3 Any w q m ys)
    (hW : W2 = (w.alloc (Obj.cells #[.slice p n c, .slice q m d] 26)).alloc (Obj.cells #[.int .i64 W, .int .i64 D, .slice (some ⟨w.heap.size, 0, none⟩) 2 2] 24)) :
    VarN W2 (w.heap.size + 1) [.int .i64 W, .int .i64 D, .slice (some ⟨w.heap.size, 0, none⟩) 2 2] ∧ Vs (repSlice repInt3) Any W2 (some ⟨w.heap.size, 0, none⟩) 2 (xs :: ys :: []) ∧ Below w.heap.size w W2 ∧ W2.heap.size = w.heap.size + 2 := by
  have V3 := vs_new (t := 26) (r := repSlice repInt3) (Q := Any) w.heap.size rfl trivial (flat_two h1 h2 h3 V k1 k2 k3 V')
  refine ⟨?_, ?_, ?_, by rw [hW]; simp⟩
  · rw [hW]; exact varN_new [.int .i64 W, .int .i64 D, .slice (some ⟨w.heap.size, 0, none⟩) 2 2] _ (by simp)
  · rw [hW]; exact vs_A _ V3
  · rw [hW]; go_grown
theorem may_turn_eq (W D : Int) (a b : List Mv) : mayL W D (b :: a :: []) = mayL W D (a :: b :: []) := by
  cases h : mayL W D (a :: b :: []) with
  | true => exact may_turn h
  | false =>
    cases h' : mayL W D (b :: a :: []) with
    | false => rfl
    | true => rw [may_turn h'] at h; cases h
theorem notes_succ {t : List Mv} {k : Nat} {m : Mv} (h : t[k]? = some m) : notesM (t.take (k + 1)) = notesM (t.take k) + (if m.1 = 1 ∨ m.1 = 3 then 1 else 0) := by
  obtain ⟨hk, rfl⟩ := List.getElem?_eq_some_iff.1 h
  rw [List.take_succ_eq_append_getElem hk, notesM_snoc]
theorem cut_slice {p : Option Addr} {n : Nat} {w : World} {ys : List Mv} (V : Vs repInt3 Any w p n ys) : Vs repInt3 Any w p (min n 8) (ys.take 8) := by
  have h := vs_take V (min n 8) (by omega)
  have e : ys.take (min n 8) = ys.take 8 := by
    have := V.1
    by_cases h8 : n ≤ 8
    · rw [List.take_of_length_le (by omega), List.take_of_length_le (by omega)]
    · rw [show min n 8 = 8 by omega]
  rw [e] at h; exact h
theorem vs_part {Q : Nat → Prop} {w : World} {b o n : Nat} {x : List Int} (h : Vs repInt Q w (some ⟨b, o, none⟩) n x) (i m : Nat) (hi : i + m ≤ n) : Vs repInt Q w (some ⟨b, o + i, none⟩) m ((x.drop i).take m) := by
  have h1 := vs_take (vs_drop h i (by omega)) m (by omega)
  rw [show repInt.k = 1 from rfl, Nat.mul_one] at h1
  exact h1
/-- the cells of a part, in each world that is later -/
theorem part_cells {w w1 : World} {b o n : Nat} {x : List Int} (h : Vs repInt (fun b => b < w.heap.size) w (some ⟨b, o, none⟩) n x) (hb : Below w.heap.size w w1) (i m : Nat) (hi : i + m ≤ n) :
    ∀ j u, (((x.drop i).take m).map (Value.int .i64))[j]? = some u → w1.cell? ((⟨b, o + i, none⟩ : Addr).add j) = some u :=
  vs_cells1 (vs_part (vs_keep (kept_low hb (fun _ h => h)) h) i m hi) _ rfl
theorem hasL_mem {l : List (List Int)} {o : List Int} (h : o ∈ l) : hasL l o = true := List.any_eq_true.2 ⟨o, h, by simp [sameB]⟩
theorem one_ints (l : List Int) : ∀ u ∈ l.map (Value.int .i64), u.oneCell' = true := by
  intro u hu
  obtain ⟨z, _, rfl⟩ := List.mem_map.1 hu
  rfl
theorem part_len {n : Nat} {x : List Int} (hx : x.length = n) (i m : Nat) (hi : i + m ≤ n) : (((x.drop i).take m).map (Value.int .i64)).length = m * 1 := by
  rw [List.length_map, List.length_take, List.length_drop]; omega
set_option maxRecDepth 100000 in
set_option maxHeartbeats 8000000 in
theorem Order_walk (W D : Int) (p q : Option Addr) (n c m d : Nat) (xs ys : List Mv) (w : World) (h1 : n ≤ c) (h2 : c ≤ 9223372036854775807) (h3 : p = none → c = 0) (V : Vs repInt3 Any w p n xs) (k1 : m ≤ d) (k2 : d ≤ 9223372036854775807) (k3 : q = none → d = 0) (V' : Vs repInt3 Any w q m ys) :
    Calls Try.prog 6 #[.int .i64 W, .int .i64 D, .slice p n c, .slice q m d] w (BoolPost true w) := by
  have VA := cut_slice V
  have VB := cut_slice V'
  obtain ⟨as1, has⟩ : ∃ x, xs.take 8 = x := ⟨_, rfl⟩
  obtain ⟨bs1, hbs⟩ : ∃ x, ys.take 8 = x := ⟨_, rfl⟩
  obtain ⟨nn, hnn⟩ : ∃ x, min n 8 = x := ⟨_, rfl⟩
  obtain ⟨mm, hmm⟩ : ∃ x, min m 8 = x := ⟨_, rfl⟩
  rw [has, hnn] at VA
  rw [hbs, hmm] at VB
  have HNN := Lib.hid hnn
  have HMM := Lib.hid hmm
  obtain ⟨i0, hi, hz0, hz1, hz2⟩ := info_parts Try.info3
  have HI := Lib.hid (And.intro hi (And.intro hz0 (And.intro hz1 hz2)))
  clear hi hz0 hz1 hz2
  have HVA := Lib.hid VA
  have HVB := Lib.hid VB
  have L1 : nn ≤ c := by omega
  have L2 : mm ≤ d := by omega
  have L3 : nn ≤ 8 := by omega
  have L4 : mm ≤ 8 := by omega
  have HP := Lib.hid (And.intro L1 (And.intro h2 h3))
  have HQ := Lib.hid (And.intro L2 (And.intro k2 k3))
  clear has hbs V V' VA VB hnn hmm h3 k3
  go_enter Try.func6, Try.ntmps6
  go_wp2
  have q1 : Hid ((min (n : Int) 8).toNat = nn) := by show (min (n : Int) 8).toNat = nn; have := HNN.out; omega
  have q2 : Hid ((min (m : Int) 8).toNat = mm) := by show (min (m : Int) 8).toNat = mm; have := HMM.out; omega
  have q3 : 0 ≤ min (n : Int) 8 := by omega
  have q4 : min (n : Int) 8 ≤ c := by omega
  have q5 : 0 ≤ min (m : Int) 8 := by omega
  have q6 : min (m : Int) 8 ≤ d := by omega
  go_cut [2, 3] (fun s2 s3 wx => s2 = .slice p nn c ∧ s3 = .slice q mm d ∧ wx = w.drew)
  case first =>
    go_region
    go_wp2_with fail
    go_meet
    exact ⟨by rw [q1.out], by rw [q2.out], rfl⟩
  case rest =>
    obtain ⟨rfl, rfl, rfl⟩ := hcut
    clear q1 q2 q3 q4 q5 q6 HNN HMM h1 h2 k1 k2 L1 L2
    obtain ⟨w0, hw0⟩ : ∃ x, x = w.drew := ⟨_, rfl⟩
    have hb0 : Below w.heap.size w w0 := by rw [hw0]; exact (Below.refl _ _).drew
    rw [← hw0]
    have HW0 := Lib.hid hw0
    clear hw0
    obtain ⟨G1, hG1⟩ : ∃ X, X = (w0.alloc (Obj.cells #[.slice p nn c, .slice q mm d] 26)).alloc (Obj.cells #[.int .i64 W, .int .i64 D, .slice (some ⟨w0.heap.size, 0, none⟩) 2 2] 24) := ⟨_, rfl⟩
    obtain ⟨X1, V1, B1, S1⟩ := lit_pair (W := W) (D := D) HP.out.1 HP.out.2.1 HP.out.2.2 (vs_B hb0 HVA.out) HQ.out.1 HQ.out.2.1 HQ.out.2.2 (vs_B hb0 HVB.out) hG1
    have HG1 := Lib.hid hG1
    clear hG1 S1
    go_upto_region 3 with fail
    rw [← HG1.out]
    obtain ⟨G2, hG2⟩ : ∃ X, X = (G1.alloc (Obj.cells #[.slice q mm d, .slice p nn c] 26)).alloc (Obj.cells #[.int .i64 W, .int .i64 D, .slice (some ⟨G1.heap.size, 0, none⟩) 2 2] 24) := ⟨_, rfl⟩
    obtain ⟨X2, V2, B2, S2⟩ := lit_pair (W := W) (D := D) HQ.out.1 HQ.out.2.1 HQ.out.2.2 (vs_B (below_from hb0 B1) HVB.out) HP.out.1 HP.out.2.1 HP.out.2.2 (vs_B (below_from hb0 B1) HVA.out) hG2
    have HG2 := Lib.hid hG2
    have HX1 := Lib.hid (varN_B B2 X1)
    have HX2 := Lib.hid X2
    have HV1 := Lib.hid (vs_B B2 V1)
    have HV2 := Lib.hid V2
    have HB2 := Lib.hid (below_from (below_from hb0 B1) B2)
    have HVA2 := Lib.hid (vs_B HB2.out HVA.out)
    clear hG2 X1 V1 B1 X2 V2 B2 S2
    go_upto_region 4 with fail
    rw [← HG2.out]
    obtain ⟨x0, -⟩ := HX1.out 0 _ rfl
    obtain ⟨x1, -⟩ := HX1.out 1 _ rfl
    obtain ⟨x2, -⟩ := HX1.out 2 _ rfl
    have hsa : ∀ t ∈ as1 :: bs1 :: [], t.length ≤ 100 := by
      intro t ht
      rcases List.mem_cons.1 ht with rfl | ht
      · have := HVA.out.1; omega
      · rcases List.mem_cons.1 ht with rfl | ht
        · have := HVB.out.1; omega
        · cases ht
    have hsb : ∀ t ∈ bs1 :: as1 :: [], t.length ≤ 100 := by
      intro t ht
      rcases List.mem_cons.1 ht with rfl | ht
      · have := HVB.out.1; omega
      · rcases List.mem_cons.1 ht with rfl | ht
        · have := HVA.out.1; omega
        · cases ht
    have HSA := Lib.hid hsa
    have HSB := Lib.hid hsb
    clear hsa hsb
    cases hmay : mayL W D (as1 :: bs1 :: []) with
    | false =>
      have HM := Lib.hid hmay
      have HM' := Lib.hid ((may_turn_eq W D as1 bs1).trans hmay)
      clear hmay
      go_wp2_with fail
      refine (outcomes_no W D _ 2 2 (as1 :: bs1 :: []) G2 HV1.out HSA.out (by omega) HM.out).mono ?_
      rintro e w3 ⟨rfl, hb3⟩
      obtain ⟨z0, -⟩ := varN_B hb3 HX2.out 0 _ rfl
      obtain ⟨z1, -⟩ := varN_B hb3 HX2.out 1 _ rfl
      obtain ⟨z2, -⟩ := varN_B hb3 HX2.out 2 _ rfl
      have HB3 := Lib.hid (below_from HB2.out hb3)
      have HV3 := Lib.hid (vs_B hb3 HV2.out)
      clear hb3 x0 x1 x2
      go_wp2_with fail
      refine (outcomes_no W D _ 2 2 (bs1 :: as1 :: []) w3 HV3.out HSB.out (by omega) HM'.out).mono ?_
      rintro e w4 ⟨rfl, hb4⟩
      have HB4 := Lib.hid (below_from HB3.out hb4)
      clear hb4 z0 z1 z2
      go_wp2_with fail
      refine (alive4_any w4).mono ?_
      rintro e w5 ⟨rfl, hb5⟩
      have HB5 := Lib.hid (below_from HB4.out hb5)
      clear hb5
      go_wp2
      go_ret
      exact boolPost_mk rfl HB5.out
    | true =>
      obtain ⟨⟨hW1, hW3, -, -⟩, -⟩ := mayL_parts hmay
      obtain ⟨wn, rfl⟩ : ∃ k : Nat, W = k := ⟨W.toNat, by omega⟩
      obtain ⟨N, hN⟩ : ∃ N, N = (rowsL wn D (as1 :: bs1 :: [])).length := ⟨_, rfl⟩
      have HM := Lib.hid hmay
      have HM' := Lib.hid ((may_turn_eq wn D as1 bs1).trans hmay)
      have h0 := outcomes_row wn D (some ⟨w0.heap.size, 0, none⟩) 2 (as1 :: bs1 :: []) G2 HV1.out HSA.out hmay
      rw [← hN] at h0
      have hN1 : N ≤ 2000000000 := by have := rows_many hmay; omega
      have hN0 : 0 < N := by have := rows_pos hmay; omega
      have HN := Lib.hid (hN.trans (rows_turn_len hmay))
      clear hmay hN
      go_wp2_with fail
      refine h0.mono ?_
      rintro e w3 ⟨v, vs, rfl, own, flat, hb3⟩
      obtain ⟨a3, c3, rfl, -, -, -, VR⟩ := vs_own (r := repSlice repInt) (Q := Any) own (flat_mono (fun _ _ => trivial) flat) (fun _ _ _ => trivial)
      obtain ⟨z0, -⟩ := varN_B hb3 HX2.out 0 _ rfl
      obtain ⟨z1, -⟩ := varN_B hb3 HX2.out 1 _ rfl
      obtain ⟨z2, -⟩ := varN_B hb3 HX2.out 2 _ rfl
      have h1 := outcomes_row wn D (some ⟨G1.heap.size, 0, none⟩) 2 (bs1 :: as1 :: []) w3 (vs_B hb3 HV2.out) HSB.out HM'.out
      rw [← HN.out] at h1
      have HB3 := Lib.hid (below_from HB2.out hb3)
      have HR3 := Lib.hid VR
      have HVA3 := Lib.hid (vs_B hb3 HVA2.out)
      clear own flat hb3 VR h0 x0 x1 x2
      go_wp2_with fail
      refine h1.mono ?_
      rintro e w4 ⟨v, vs', rfl, own, flat, hb4⟩
      obtain ⟨a4, c4, rfl, -, -, -, VR'⟩ := vs_own (r := repSlice repInt) (Q := Any) own (flat_mono (fun _ _ => trivial) flat) (fun _ _ _ => trivial)
      have HB4 := Lib.hid (below_from HB3.out hb4)
      have HR4 := Lib.hid (vs_B hb4 HR3.out)
      have HS4 := Lib.hid VR'
      have HVA4 := Lib.hid (vs_B hb4 HVA3.out)
      clear own flat hb4 VR' h1 z0 z1 z2
      go_wp2_with fail
      go_loopw [15, 73] (fun cn i wr => ∃ (k c : Nat), k ≤ nn ∧ c ≤ k ∧ i = .int .i64 k ∧ cn = .int .i64 c ∧ Hid (notesM (as1.take k) = c) ∧ Below w4.heap.size w4 wr) (fun _ i _ => nn - (intOf i).toNat)
      case atStart => exact ⟨0, 0, Nat.zero_le _, Nat.le_refl _, rfl, rfl, rfl, Below.refl _ _⟩
      case round =>
        obtain ⟨k, cc, hk, hck, rfl, rfl, hcc, hb⟩ := hrel
        by_cases hlt : k < nn
        · obtain ⟨b, ob, kd, ay, vl, rfl, hx, g0, g1, g2⟩ := move_at (vs_B hb HVA4.out) hlt
          have i1 : (0 : Int) ≤ k := by omega
          have i2 : (k : Int) < nn := by omega
          have HNX := Lib.hid (notes_succ hx)
          have HBR := Lib.hid (hb.alloc hb.size (Obj.cells #[.int .i64 kd, .int .i64 ay, .int .i64 vl] 28))
          clear hx hb
          by_cases e1 : kd = 1
          · subst e1
            have HCC := Lib.hid (show notesM (as1.take (k + 1)) = cc + 1 by rw [HNX.out, hcc.out]; rfl)
            clear HNX
            go_wp2_with fail
            go_roundw
            case rel => exact ⟨k + 1, cc + 1, by omega, by omega, by go_num, by go_num, HCC.out, HBR.out⟩
            case measure => simp [intOf]; omega
          · by_cases e3 : kd = 3
            · subst e3
              have HCC := Lib.hid (show notesM (as1.take (k + 1)) = cc + 1 by rw [HNX.out, hcc.out]; rfl)
              clear HNX
              go_wp2_with fail
              go_roundw
              case rel => exact ⟨k + 1, cc + 1, by omega, by omega, by go_num, by go_num, HCC.out, HBR.out⟩
              case measure => simp [intOf]; omega
            · have HCC := Lib.hid (show notesM (as1.take (k + 1)) = cc by rw [HNX.out, hcc.out]; simp [e1, e3])
              have q1 : (kd == 1) = false := by simpa using e1
              have q2 : (kd == 3) = false := by simpa using e3
              clear HNX e1 e3
              go_wp2_with fail
              go_roundw
              case rel => exact ⟨k + 1, cc, by omega, by omega, by go_num, rfl, HCC.out, HBR.out⟩
              case measure => simp [intOf]; omega
        · obtain rfl : k = nn := by omega
          have HCC := Lib.hid (show notesM as1 = cc by rw [← hcc.out, List.take_of_length_le (by rw [HVA.out.1]; exact Nat.le_refl _)])
          have HB5 := Lib.hid (below_from HB4.out hb)
          have HR5 := Lib.hid (vs_B hb HR4.out)
          have HS5 := Lib.hid (vs_B hb HS4.out)
          have q1 : ((N : Int) == 0) = false := by simp; omega
          have q2 : ((N : Int) != N) = false := by simp
          clear hb hcc
          go_wp2_with fail
          refine (alive4_any wr).mono ?_
          rintro e w6 ⟨rfl, hb6⟩
          have HB6 := Lib.hid (below_from HB5.out hb6)
          have HR6 := Lib.hid (vs_B hb6 HR5.out)
          have HS6 := Lib.hid (vs_B hb6 HS5.out)
          clear hb6
          go_wp2_with fail
          go_loopw [104] (fun i wr => ∃ k : Nat, k ≤ N ∧ i = .int .i64 k ∧ Below w6.heap.size w6 wr) (fun i _ => N - (intOf i).toNat)
          case atStart => exact ⟨0, Nat.zero_le _, rfl, Below.refl _ _⟩
          case round =>
            obtain ⟨j, hj, rfl, hb⟩ := hrel
            by_cases hlt2 : j < N
            · obtain ⟨b, ob, x, px, pc, rfl, hx, g0, c1, c2, c0, V2⟩ := ints_at (vs_B hb HR6.out) hlt2
              have i1 : (0 : Int) ≤ j := by omega
              have i2 : (j : Int) < N := by omega
              have hmem : x ∈ rowsL wn D (as1 :: bs1 :: []) := (srt_mem _ _).1 (List.mem_of_getElem? hx)
              have hxl := rows_short HM.out x hmem
              obtain ⟨t1, t2, t3⟩ := row_turn HM.out hmem
              rw [HCC.out] at t1 t3
              rw [Int.toNat_natCast] at t1 t2 t3
              obtain ⟨xl, hxe⟩ : ∃ y, x.length = y := ⟨_, rfl⟩
              obtain ⟨Kn, hKn⟩ : ∃ y, xl - wn = y := ⟨_, rfl⟩
              rw [hxe] at hxl t1 t2 g0 c1 V2
              rw [hKn] at t1
              have hsub : (xl : Int) - (wn : Int) = (Kn : Int) := by omega
              have j1 : ¬ (Kn : Int) < cc := by omega
              have j2 : ¬ (Kn : Int) < 0 := by omega
              have HT3 := Lib.hid t3
              have HXE := Lib.hid hxe
              have HKN := Lib.hid hKn
              have HBR := Lib.hid hb
              have HVX := Lib.hid V2
              clear hx hmem t3 hxe hKn hb V2
              go_wp2_with fail
              obtain ⟨xb, xo, x0, rfl, -, -⟩ := int_at HVX.out (show 0 < xl by omega)
              have HLX := Lib.hid (vs_old HVX.out)
              have s1 : (0 : Int) ≤ cc := by omega
              have s2 : (cc : Int) ≤ Kn := by omega
              have s3 : (Kn : Int) ≤ pc := by omega
              have s4 : (0 : Int) ≤ Kn := by omega
              have s5 : (cc : Int) ≤ pc := by omega
              have s6 : (Kn : Int) ≤ xl := by omega
              have s7 : (xl : Int) ≤ pc := by omega
              have s8 : pc ≠ cc := by omega
              have s9 : pc ≠ Kn := by omega
              have s10 : xl - Kn = wn := by omega
              have h9 : cc ≤ Kn := by omega
              have h10 : Kn + wn = xl := by omega
              have hown0 : (wr.alloc (Obj.cells #[] 3)).ownsRow wr.heap.size 3 1 (.slice (some ⟨wr.heap.size, 0, none⟩) 0 0) 0 [] := World.ownsRow_lit wr #[] 0 (Nat.le_refl _) (by decide) rfl
              go_region_law (first | (refine step_append_mine rfl (.tmp 119) (.tmp 123) 36 rfl wr.heap.size 3 i0 (.int .i64 0) 1 8 Try.underlying36 HI.out.1 HI.out.2.1 HI.out.2.2.1 HI.out.2.2.2 rfl (by decide) (.slice (some ⟨wr.heap.size, 0, none⟩) 0 0) 0 [] (by simp [Act.eval]) (by first | exact hown0.drew | exact World.ownsRow_lit _ #[] 0 (by simp) (by decide) rfl) ⟨xb, xo + cc, none⟩ (Kn - cc) (pc - cc) (((x.drop cc).take (Kn - cc)).map (Value.int .i64)) (by simp [Act.eval]) (part_len HXE.out cc (Kn - cc) (by omega)) (part_cells HLX.out (by first | exact ((Below.refl _ _).alloc (Nat.le_refl _) _).drew | exact (Below.refl _ _).alloc (Nat.le_refl _) _ | exact ((Below.refl _ _).drew.alloc (Nat.le_refl _) _)) cc (Kn - cc) (by omega)) (one_ints _) (by unfold maxLen; omega) (by omega) (by simp) ?_; intro v1 w1 hown1 hgrow1; rw [Nat.zero_add, List.nil_append] at hown1; obtain ⟨a1, d1, rfl⟩ := own_shapeT hown1; have hB1 : Below wr.heap.size wr w1 := mine_below (by first | exact ((Below.refl _ _).alloc (Nat.le_refl _) _).drew | exact (Below.refl _ _).alloc (Nat.le_refl _) _ | exact ((Below.refl _ _).drew.alloc (Nat.le_refl _) _)) (by simp) hgrow1 hown0; clear hgrow1) | (refine step_append_mine rfl (.tmp 124) (.tmp 127) 36 rfl wr.heap.size 3 i0 (.int .i64 0) 1 8 Try.underlying36 HI.out.1 HI.out.2.1 HI.out.2.2.1 HI.out.2.2.2 rfl (by decide) (.slice a1 (Kn - cc) d1) (Kn - cc) _ (by simp [Act.eval]) hown1 ⟨xb, xo + 0, none⟩ cc pc (((x.drop 0).take cc).map (Value.int .i64)) (by simp [Act.eval]) (part_len HXE.out 0 cc (by omega)) (part_cells HLX.out hB1 0 cc (by omega)) (one_ints _) (by unfold maxLen; omega) (by omega) hB1.size ?_; intro v2 w2 hown2 hgrow2; rw [Nat.sub_add_cancel h9] at hown2; obtain ⟨a2, d2, rfl⟩ := own_shapeT hown2; have hB2 : Below wr.heap.size wr w2 := mine_below hB1 hB1.size hgrow2 hown1; clear hgrow2) | (refine step_append_mine rfl (.tmp 128) (.tmp 131) 36 rfl wr.heap.size 3 i0 (.int .i64 0) 1 8 Try.underlying36 HI.out.1 HI.out.2.1 HI.out.2.2.1 HI.out.2.2.2 rfl (by decide) (.slice a2 Kn d2) Kn _ (by simp [Act.eval]) hown2 ⟨xb, xo + Kn, none⟩ wn (pc - Kn) (((x.drop Kn).take wn).map (Value.int .i64)) (by simp [Act.eval]) (part_len HXE.out Kn wn (by omega)) (part_cells HLX.out hB2 Kn wn (by omega)) (one_ints _) (by unfold maxLen; omega) (by omega) hB2.size ?_; intro v3 w3' hown3 hgrow3; rw [h10] at hown3; obtain ⟨a3', d3, rfl⟩ := own_shapeT hown3; have hB3 : Below wr.heap.size wr w3' := mine_below hB2 hB2.size hgrow3 hown2; clear hgrow3))
              have hsw : ((x.drop cc).take (Kn - cc)).map (Value.int .i64) ++ ((x.drop 0).take cc).map (Value.int .i64) ++ ((x.drop Kn).take wn).map (Value.int .i64) = (swapO cc wn x).map (Value.int .i64) := by
                rw [swapO, HXE.out, HKN.out, List.drop_zero, List.take_of_length_le (l := x.drop Kn) (by rw [List.length_drop, HXE.out]; omega)]
                simp only [List.map_append]
              rw [hsw] at hown3
              obtain ⟨a5, d5, e5, -, -, -, VS⟩ := vs_own (r := repInt) (Q := Any) hown3 (flat_map1 _ _) (fun _ _ _ => trivial)
              cases e5
              have hb7 := below_from HBR.out hB3
              have hh := refHas_any a4 N c4 (srtL (rowsL wn D (bs1 :: as1 :: []))) a3' xl d3 (swapO cc wn x) w3' (vs_B hb7 HS6.out) (vs_sl VS) (by omega)
              rw [hasL_mem ((srt_mem _ _).2 HT3.out)] at hh
              have HH := Lib.hid hh
              have HB7 := Lib.hid hb7
              clear hsw hown1 hown2 hown3 hB1 hB2 hB3 VS hb7 hh hown0
              go_wp2_with fail
              refine HH.out.mono ?_
              rintro e w8 ⟨rfl, hb8⟩
              have HB8 := Lib.hid (below_from HB7.out hb8)
              clear hb8
              go_wp2_with fail
              go_roundw
              case rel => exact ⟨j + 1, by omega, by go_num, HB8.out⟩
              case measure => simp [intOf]; omega
            · obtain rfl : j = N := by omega
              have HB7 := Lib.hid (below_from HB6.out hb)
              clear hb
              go_wp2
              go_ret
              exact boolPost_mk rfl HB7.out
end Go.Proofs.Ytcpebnafoalhnaa
