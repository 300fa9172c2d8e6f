/- Contracts of package respiteref04: Right. -/
import Derived.Test.YtiebaeaomgpicaaGreatN1
namespace Go.Proofs.YtiebaeaomgpicaaGreat
open Go.ChangeShapes Go.WideShapes Go.ChangeAt Go.RowKit
open Gen

set_option maxRecDepth 100000 in
set_option maxHeartbeats 8000000 in
theorem refRight4_any (W D : Int) (q : Option Addr) (l d : Nat) (ts : List (List Mv)) (w : World) (S : Vs (repSlice repInt3) Any w q l ts) (hlen : ∀ t ∈ ts, t.length ≤ 100) (hl : l ≤ 1000) :
    Calls Tryz.prog 8 #[.agg #[.int .i64 W, .int .i64 D, .slice q l d]] w (BoolPost (mayL W D ts) w) := by
  have Hl := Lib.hid S.1
  have HL := Lib.hid hlen
  clear hlen
  obtain ⟨W0, hW0⟩ : ∃ W0, W0 = w.alloc (Obj.cells #[.int .i64 W, .int .i64 D, .slice q l d] 25) := ⟨_, rfl⟩
  have k0 : W0.cell? ⟨w.heap.size, 0, none⟩ = some (.int .i64 W) := by rw [hW0]; exact cell_new _ _ _ rfl rfl
  have k1 : W0.cell? ⟨w.heap.size, 1, none⟩ = some (.int .i64 D) := by rw [hW0]; exact cell_new _ _ _ rfl rfl
  have k2 : W0.cell? ⟨w.heap.size, 2, none⟩ = some (.slice q l d) := by rw [hW0]; exact cell_new _ _ _ rfl rfl
  have T : Vs (repSlice repInt3) Any W0 q l ts := by rw [hW0]; exact vs_A _ S
  have HB := Lib.hid (show Below w.heap.size w W0 by rw [hW0]; go_grown)
  have HW := Lib.hid hW0
  clear hW0 S
  go_enter Tryz.func8, Tryz.ntmps8
  go_upto_region 1 with fail
  rw [← HW.out]
  by_cases s0 : W < 1
  · have HN := Lib.hid (show mayL W D ts = false from mayL_no (.inl (by omega)))
    clear HL T
    go_wp2
    go_ret
    exact boolPost_mk HN.out HB.out
  by_cases s1 : 3 < W
  · have HN := Lib.hid (show mayL W D ts = false from mayL_no (.inl (by omega)))
    clear HL T
    go_wp2
    go_ret
    exact boolPost_mk HN.out HB.out
  by_cases s2 : D < 0
  · have HN := Lib.hid (show mayL W D ts = false from mayL_no (.inl (by omega)))
    clear HL T
    go_wp2
    go_ret
    exact boolPost_mk HN.out HB.out
  by_cases s3 : 3 < D
  · have HN := Lib.hid (show mayL W D ts = false from mayL_no (.inl (by omega)))
    clear HL T
    go_wp2
    go_ret
    exact boolPost_mk HN.out HB.out
  by_cases s4 : (l : Int) < 1
  · have HN := Lib.hid (show mayL W D ts = false from mayL_no (.inr (.inl (by rw [Hl.out]; omega))))
    clear HL T
    go_wp2
    go_ret
    exact boolPost_mk HN.out HB.out
  by_cases s5 : 3 < (l : Int)
  · have HN := Lib.hid (show mayL W D ts = false from mayL_no (.inr (.inl (by rw [Hl.out]; omega))))
    clear HL T
    go_wp2
    go_ret
    exact boolPost_mk HN.out HB.out
  have HS := Lib.hid (show (1 ≤ W ∧ W ≤ 3 ∧ 0 ≤ D ∧ D ≤ 3) ∧ 1 ≤ ts.length ∧ ts.length ≤ 3 by rw [Hl.out]; omega)
  have hl3 : l ≤ 3 := by omega
  go_wp2_with fail
  go_loopw [3, 41] (fun m i wr => ∃ k : Nat, k ≤ l ∧ i = .int .i64 k ∧ m = .int .i64 ((total (ts.take k) : Nat) : Int) ∧ Hid (FitsTo W ts k) ∧ Below W0.heap.size W0 wr) (fun _ i _ => l - (intOf i).toNat)
  case atStart => exact ⟨0, by omega, rfl, rfl, (show FitsTo W ts 0 from fun i t hi => by omega), Below.refl _ _⟩
  case round =>
    obtain ⟨k, hk, rfl, rfl, hf, hb⟩ := hrel
    obtain ⟨wo, hwo⟩ : ∃ wo : World, wo = wr := ⟨_, rfl⟩
    subst hwo
    have hbd := total_bound HL.out k
    by_cases hlt : k < l
    · obtain ⟨b, o, t, p, c, rfl, ht, g0, -, -, -, T2⟩ := moves_at (vs_B hb T) hlt
      have HT := Lib.hid ht
      have HTT := Lib.hid (total_succ ht)
      have HB2 := Lib.hid hb
      have hl100 := HL.out t (List.mem_of_getElem? ht)
      obtain ⟨n, hn⟩ : ∃ n, t.length = n := ⟨_, rfl⟩
      rw [hn] at g0 T2 hl100
      have HN := Lib.hid hn
      have i1 : (0 : Int) ≤ k := by omega
      have i2 : (k : Int) < l := by omega
      obtain ⟨tk, htk⟩ : ∃ tk, total (ts.take k) = tk := ⟨_, rfl⟩
      rw [htk] at hbd ⊢
      have HTK := Lib.hid htk
      clear ht hb hn htk
      go_wp2_with fail
      go_loopw [51] (fun i wr => ∃ x : Nat, x ≤ n ∧ i = .int .i64 x ∧ Hid (FitTo W t x) ∧ Below wo.heap.size wo wr) (fun i _ => n - (intOf i).toNat)
      case atStart => exact ⟨0, by omega, rfl, (show FitTo W t 0 from fun i m hi => by omega), Below.refl _ _⟩
      case round =>
        obtain ⟨x, hx, rfl, hfx, hbx⟩ := hrel
        by_cases hlx : x < n
        · obtain ⟨b2, o2, mk, ma, mv, rfl, hm, m0, m1, m2⟩ := move_at (vs_B hbx T2) hlx
          have HMM := Lib.hid hm
          have HBW := Lib.hid (below_from HB2.out hbx)
          have k0' := cellA (Obj.cells #[.int .i64 mk, .int .i64 ma, .int .i64 mv] 61) (cellB HBW.out k0)
          have HBA := Lib.hid (hbx.alloc hbx.size (Obj.cells #[.int .i64 mk, .int .i64 ma, .int .i64 mv] 61))
          have HNO := Lib.hid (show fitsB W (mk, ma, mv) = false → mayL W D ts = false from fun h => mayL_no (.inr (.inr (.inr ⟨t, List.mem_of_getElem? HT.out, _, List.mem_of_getElem? HMM.out, h⟩))))
          have HYE := Lib.hid (show fitsB W (mk, ma, mv) = true → FitTo W t (x + 1) from fun h => fitTo_succ hfx.out HMM.out h)
          have i3 : (0 : Int) ≤ x := by omega
          have i4 : (x : Int) < n := by omega
          clear hm hbx
          by_cases f0 : mk < 0
          · have HNN := Lib.hid (HNO.out (by simp [fitsB]; omega))
            go_wp2
            go_ret
            exact boolPost_mk HNN.out (below_from HB.out (below_from HB2.out HBA.out))
          by_cases f1 : 3 < mk
          · have HNN := Lib.hid (HNO.out (by simp [fitsB]; omega))
            go_wp2
            go_ret
            exact boolPost_mk HNN.out (below_from HB.out (below_from HB2.out HBA.out))
          by_cases f2 : ma < 0
          · have HNN := Lib.hid (HNO.out (by simp [fitsB]; omega))
            go_wp2
            go_ret
            exact boolPost_mk HNN.out (below_from HB.out (below_from HB2.out HBA.out))
          by_cases f3 : W ≤ ma
          · have HNN := Lib.hid (HNO.out (by simp [fitsB]; omega))
            go_wp2
            go_ret
            exact boolPost_mk HNN.out (below_from HB.out (below_from HB2.out HBA.out))
          by_cases f4 : mv < 0
          · have HNN := Lib.hid (HNO.out (by simp [fitsB]; omega))
            go_wp2
            go_ret
            exact boolPost_mk HNN.out (below_from HB.out (below_from HB2.out HBA.out))
          by_cases f5 : 9 < mv
          · have HNN := Lib.hid (HNO.out (by simp [fitsB]; omega))
            go_wp2
            go_ret
            exact boolPost_mk HNN.out (below_from HB.out (below_from HB2.out HBA.out))
          rcases (show mk = 0 ∨ mk = 1 ∨ mk = 2 ∨ mk = 3 by omega) with e | e | e | e
          · subst e
            have HFF := Lib.hid (HYE.out (by simp [fitsB]; omega))
            go_wp2_with fail
            go_roundw
            case rel => exact ⟨x + 1, by omega, by go_num, HFF.out, HBA.out⟩
            case measure => simp [intOf]; omega
          · subst e
            by_cases v0 : mv = 0
            · subst v0
              have HFF := Lib.hid (HYE.out (by simp [fitsB]; omega))
              go_wp2_with fail
              go_roundw
              case rel => exact ⟨x + 1, by omega, by go_num, HFF.out, HBA.out⟩
              case measure => simp [intOf]; omega
            · have q1 : (mv != 0) = true := by simpa using v0
              have HNN := Lib.hid (HNO.out (by simp [fitsB]; omega))
              go_wp2
              go_ret
              exact boolPost_mk HNN.out (below_from HB.out (below_from HB2.out HBA.out))
          · subst e
            by_cases a0 : ma = 0
            · subst a0
              by_cases v0 : mv = 0
              · subst v0
                have HFF := Lib.hid (HYE.out (by simp [fitsB]; omega))
                go_wp2_with fail
                go_roundw
                case rel => exact ⟨x + 1, by omega, by go_num, HFF.out, HBA.out⟩
                case measure => simp [intOf]; omega
              · have q1 : (mv != 0) = true := by simpa using v0
                have HNN := Lib.hid (HNO.out (by simp [fitsB]; omega))
                go_wp2
                go_ret
                exact boolPost_mk HNN.out (below_from HB.out (below_from HB2.out HBA.out))
            · have q1 : (ma != 0) = true := by simpa using a0
              have HNN := Lib.hid (HNO.out (by simp [fitsB]; omega))
              go_wp2
              go_ret
              exact boolPost_mk HNN.out (below_from HB.out (below_from HB2.out HBA.out))
          · subst e
            have HFF := Lib.hid (HYE.out (by simp [fitsB]; omega))
            go_wp2_with fail
            go_roundw
            case rel => exact ⟨x + 1, by omega, by go_num, HFF.out, HBA.out⟩
            case measure => simp [intOf]; omega
        · obtain rfl : x = n := by omega
          have HBX := Lib.hid (below_from HB2.out hbx)
          clear hbx
          go_wp2_with fail
          go_roundw
          case rel => exact ⟨k + 1, by omega, by go_num, by rw [HTT.out, HTK.out, HN.out]; go_num, fitsTo_succ hf.out HT.out (by rw [HN.out]; exact hfx.out), HBX.out⟩
          case measure => simp [intOf]; omega
    · obtain rfl : k = l := by omega
      have HBX := Lib.hid (below_from HB.out hb)
      rw [List.take_of_length_le (by rw [Hl.out]; exact Nat.le_refl _)] at hbd ⊢
      have hall := hf.out
      rw [← Hl.out] at hall
      have HALL := Lib.hid (fitsTo_all hall)
      clear hb hall
      by_cases h6 : total ts ≤ 6
      · have HY := Lib.hid (show mayL W D ts = true from mayL_mk HS.out.1 HS.out.2 h6 HALL.out)
        have h6' : ((total ts : Nat) : Int) ≤ 6 := by omega
        go_wp2
        go_ret
        exact boolPost_mk HY.out HBX.out
      · have HY := Lib.hid (show mayL W D ts = false from mayL_no (.inr (.inr (.inl h6))))
        have h6' : ¬ ((total ts : Nat) : Int) ≤ 6 := by omega
        go_wp2
        go_ret
        exact boolPost_mk HY.out HBX.out
end Go.Proofs.YtiebaeaomgpicaaGreat
