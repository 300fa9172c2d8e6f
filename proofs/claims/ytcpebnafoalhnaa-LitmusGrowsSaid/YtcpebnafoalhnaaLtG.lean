/- The walk of LitmusGrows. -/
import Derived.Test.YtcpebnafoalhnaaLtB
import Derived.Test.YtcpebnafoalhnaaMT
namespace Go.Proofs.Ytcpebnafoalhnaa
open Go.ChangeShapes Go.WideShapes Go.ChangeAt Go.RowKit
open Gen
theorem may_deep {W D : Int} {ts : List (List Mv)} (hm : mayL W D ts = true) (h : D ≤ 2) : mayL W (D + 1) ts = true := by
  obtain ⟨⟨h1, h2, h3, h4⟩, h5, h6, h7⟩ := mayL_parts hm
  exact mayL_mk ⟨h1, h2, by omega, by omega⟩ h5 h6 h7

set_option maxRecDepth 100000 in
set_option maxHeartbeats 8000000 in
theorem Grows_walk (W D : Int) (q : Option Addr) (l d : Nat) (ts : List (List Mv)) (w : World) (hld : l ≤ d) (hd : d ≤ 9223372036854775807) (V : Vs (repSlice repInt3) Any w q l ts) :
    Calls Try.prog 4 #[.int .i64 W, .int .i64 D, .slice q l d] w (BoolPost true w) := by
  have hts := test_any W D q l d ts w hld hd V
  obtain ⟨m, hm⟩ : ∃ m, min l 4 = m := ⟨_, rfl⟩
  have hsh := short_cut (ts := ts)
  obtain ⟨cs, hcs⟩ : ∃ cs, cutL ts = cs := ⟨_, rfl⟩
  rw [hm, hcs] at hts
  rw [hcs] at hsh
  have hm4 : m ≤ 4 := by omega
  have HSH := Lib.hid hsh
  have HTS := Lib.hid hts
  clear hm hcs hsh hts V hld hd
  go_enter Try.func4, Try.ntmps4
  go_wp2_with fail
  refine HTS.out.mono ?_
  rintro e w1 ⟨tq, td, rfl, htd, htd2, ht0, VT, hb1⟩
  obtain rfl : cs.length = m := VT.1
  obtain ⟨G, hG⟩ : ∃ G, G = w1.alloc (Obj.cells #[.int .i64 W, .int .i64 D, .slice tq cs.length td] 24) := ⟨_, rfl⟩
  have hbG : Below w.heap.size w G := by rw [hG]; exact hb1.alloc hb1.size _
  have X : VarN G w1.heap.size [.int .i64 W, .int .i64 D, .slice tq cs.length td] := by rw [hG]; exact varN_new [.int .i64 W, .int .i64 D, .slice tq cs.length td] _ rfl
  have hgl := varN_lt X (by simp)
  have VG : Vs (repSlice repInt3) (fun b => b < w1.heap.size) G tq cs.length cs := by rw [hG]; exact vs_A _ (vs_old VT)
  have HG := Lib.hid hG
  have HB := Lib.hid hbG
  have HW1 := Lib.hid (show w.heap.size ≤ w1.heap.size from hb1.size)
  have HX := Lib.hid X
  have HV := Lib.hid VG
  have HT := Lib.hid (And.intro htd (And.intro htd2 ht0))
  have x0 := (X 0 _ rfl).1
  have x1 := (X 1 _ rfl).1
  have x2 := (X 2 _ rfl).1
  clear hG hbG X VG VT hb1 htd htd2 ht0 HTS
  go_upto_region 2 with fail
  rw [← HG.out]
  cases hmay : mayL W D cs with
  | false =>
    have HM := Lib.hid hmay
    clear hmay
    go_wp2_with fail
    refine (outcomes_no W D tq cs.length td cs G (vs_any HV.out) HSH.out (by omega) HM.out).mono ?_
    rintro e w2 ⟨rfl, hb2⟩
    have HB2 := Lib.hid (below_from HB.out hb2)
    clear hb2 x0 x1 x2
    go_wp2_with fail
    refine (alive4_any w2).mono ?_
    rintro e w3 ⟨rfl, hb3⟩
    have HB3 := Lib.hid (below_from HB2.out hb3)
    clear hb3
    go_wp2
    go_ret
    exact boolPost_mk rfl HB3.out
  | true =>
    have HM := Lib.hid hmay
    obtain ⟨⟨hW1, hW3, hD0, hD3⟩, -⟩ := mayL_parts hmay
    obtain ⟨N, hN⟩ : ∃ N, N = (rowsL W D cs).length := ⟨_, rfl⟩
    have h0 := outcomes_row W D tq td cs G (vs_any HV.out) HSH.out hmay
    rw [← hN] at h0
    have hN1 : N ≤ 2000000000 := by have := rows_many hmay; omega
    have hN0 : 0 < N := by have := rows_pos hmay; omega
    have HN := Lib.hid hN
    clear hmay hN
    go_wp2_with fail
    refine h0.mono ?_
    rintro e w2 ⟨v, vs, rfl, own, flat, hb2⟩
    obtain ⟨a2, c2, rfl, hc1, hc2, hc3, VR⟩ := vs_own (r := repSlice repInt) (Q := fun b => G.heap.size ≤ b) own (flat_mono (fun _ h => h.1) flat) (fun b h _ => h)
    have HR := Lib.hid VR
    have X2 := varN_B hb2 HX.out
    have HX2 := Lib.hid X2
    have HV2 := Lib.hid (vs_B hb2 HV.out)
    have HB2 := Lib.hid (below_from HB.out hb2)
    have hs2 := hb2.size
    clear own flat hb2 x0 x1 x2 VR h0
    by_cases h3 : D = 3
    · subst h3
      go_wp2_with fail
      refine (alive4_any w2).mono ?_
      rintro e w3 ⟨rfl, hb3⟩
      have HB3 := Lib.hid (below_from HB2.out hb3)
      clear hb3
      go_wp2
      go_ret
      exact boolPost_mk rfl HB3.out
    · have hD2 : D ≤ 2 := by omega
      have i1 : ¬ D < 0 := by omega
      have i2 : ¬ 2 < D := by omega
      have HM1 := Lib.hid (may_deep HM.out hD2)
      obtain ⟨y1, g1⟩ := X2 1 _ rfl
      obtain ⟨U, hU⟩ : ∃ U, U = w2.setCell ⟨w1.heap.size, 1, none⟩ (.int .i64 (D + 1)) := ⟨_, rfl⟩
      have XU : VarN U w1.heap.size [.int .i64 W, .int .i64 (D + 1), .slice tq cs.length td] := by rw [hU]; exact varN_set HX2.out 1 (by simp) _
      have HXU := Lib.hid XU
      have HVU := Lib.hid (show Vs (repSlice repInt3) (fun b => b < w1.heap.size) U tq cs.length cs by rw [hU]; exact vs_keep (kept_set _ _ _ (fun b hb => by simp; omega)) HV2.out)
      have HRU := Lib.hid (show Vs (repSlice repInt) (fun b => G.heap.size ≤ b) U a2 N (srtL (rowsL W D cs)) by rw [hU]; exact vs_keep (kept_set _ _ _ (fun b hb => by simp; omega)) HR.out)
      have HBU := Lib.hid (show Below w.heap.size w U by rw [hU]; exact HB2.out.setCell HW1.out _)
      have HU := Lib.hid hU
      clear hU XU X2 HX2 HV2 HR h3
      go_upto_region 6 with fail
      rw [← HU.out]
      clear y1 g1
      go_wp2_with fail
      go_loopw [39] (fun i wr => ∃ k : Nat, k ≤ N ∧ i = .int .i64 k ∧ Below U.heap.size U wr) (fun i _ => N - (intOf i).toNat)
      case atStart => exact ⟨0, Nat.zero_le _, rfl, Below.refl _ _⟩
      case round =>
        obtain ⟨k, hk, rfl, hb⟩ := hrel
        by_cases hlt : k < N
        · obtain ⟨b, ob, x, p, pc, rfl, hx, g0, c1, c2', -, V2⟩ := ints_at (vs_any (vs_B hb HRU.out)) hlt
          have i3 : (0 : Int) ≤ k := by omega
          have i4 : (k : Int) < N := by omega
          have hmem : x ∈ rowsL W D cs := (srt_mem _ _).1 (List.mem_of_getElem? hx)
          have hxl := rows_short HM.out x hmem
          have hcan := can_any W (D + 1) tq td cs x p x.length pc wr (vs_any (vs_B hb HVU.out)) HSH.out HM1.out V2 (by omega)
          rw [decide_eq_true (rows_grow HM.out HM1.out hmem)] at hcan
          have XR := varN_B hb HXU.out
          obtain ⟨z0, -⟩ := XR 0 _ rfl
          obtain ⟨z1, -⟩ := XR 1 _ rfl
          obtain ⟨z2, -⟩ := XR 2 _ rfl
          have HC := Lib.hid hcan
          have HBR := Lib.hid hb
          clear hx V2 hmem hcan XR hb
          go_wp2_with fail
          refine HC.out.mono ?_
          rintro e w4 ⟨rfl, hb4⟩
          have HB4 := Lib.hid (below_from HBR.out hb4)
          clear hb4 z0 z1 z2 g0
          go_wp2_with fail
          go_roundw
          case rel => exact ⟨k + 1, by omega, by go_num, HB4.out⟩
          case measure => simp [intOf]; omega
        · obtain rfl : k = N := by omega
          have HBR := Lib.hid (below_from HBU.out hb)
          have i5 : (0 : Int) < k := by omega
          clear hb
          go_wp2_with fail
          refine (alive4_any wr).mono ?_
          rintro e w4 ⟨rfl, hb4⟩
          have HB4 := Lib.hid (below_from HBR.out hb4)
          clear hb4
          go_wp2
          go_ret
          exact boolPost_mk rfl HB4.out
end Go.Proofs.Ytcpebnafoalhnaa
