/- Package local: Run. -/
import Derived.Test.YtjddflnecfokaaaLoN
namespace Go.Proofs.Ytjddflnecfokaaa
open Go.ChangeShapes Go.WideShapes Go.ChangeAt Go.RowKit
open Gen

/-- a thread in new memory, a number, and an error -/
def RunPost (t : Thr) (n x : Int) (w : World) (e : Ending) (w' : World) : Prop :=
  ∃ fa fn fc la ln lc, e = .returned (.tuple #[.agg #[.int .i64 t.pc, .int .i64 (t.r 0), .int .i64 (t.r 1), .int .i64 (t.r 2), .int .i64 (t.r 3), .int .i64 (t.r 4), .int .i64 (t.r 5), .int .i64 (t.r 6), .int .i64 (t.r 7), .slice fa fn fc, .int .i64 t.st, .int .i64 t.ft, .slice la ln lc], .int .i64 n, .int .i64 x]) ∧ ThQ (fun b => w.heap.size ≤ b) w' fa fn fc la ln lc t ∧ Below w.heap.size w w'
theorem runPost_zero {t : Thr} {n x y : Int} {w w' : World} (ht : t = zThr) (hn : n = 0) (hx : x = y) (hb : Below w.heap.size w w') : RunPost t n x w (.returned (.tuple #[.agg #[.int .i64 0, .int .i64 0, .int .i64 0, .int .i64 0, .int .i64 0, .int .i64 0, .int .i64 0, .int .i64 0, .int .i64 0, .slice none 0 0, .int .i64 0, .int .i64 0, .slice none 0 0], .int .i64 0, .int .i64 y])) w' := by
  subst ht; subst hx; subst hn
  exact ⟨none, 0, 0, none, 0, 0, rfl, ⟨cap_nil, vs_nil, cap_nil, vs_nil⟩, hb⟩
theorem runPost_mk {t T : Thr} {n x : Int} {k : Nat} {w w' : World} {fa la : Option Addr} {fn fc ln lc : Nat} (ht : t = T) (hn : n = k) (hx : x = 0) (F : ThQ (fun b => w.heap.size ≤ b) w' fa fn fc la ln lc T) (hb : Below w.heap.size w w') : RunPost t n x w (.returned (.tuple #[.agg #[.int .i64 T.pc, .int .i64 (T.r 0), .int .i64 (T.r 1), .int .i64 (T.r 2), .int .i64 (T.r 3), .int .i64 (T.r 4), .int .i64 (T.r 5), .int .i64 (T.r 6), .int .i64 (T.r 7), .slice fa fn fc, .int .i64 T.st, .int .i64 T.ft, .slice la ln lc], .int .i64 (k : Nat), .int .i64 0])) w' := by
  subst ht; subst hx; subst hn
  exact ⟨fa, fn, fc, la, ln, lc, rfl, F, hb⟩
/-- what holds ahead of each round -/
structure LoopR (w : World) (sf : Int) (c : List In4) (m : Nat) (t : Thr) (v k : Nat) (T : Thr) (fa : Option Addr) (fn fc : Nat) (la : Option Addr) (ln lc : Nat) (wr : World) : Prop where
  ran : Ran sf c m t k T
  x : VarN wr v [.int .i64 T.pc, .int .i64 (T.r 0), .int .i64 (T.r 1), .int .i64 (T.r 2), .int .i64 (T.r 3), .int .i64 (T.r 4), .int .i64 (T.r 5), .int .i64 (T.r 6), .int .i64 (T.r 7), .slice fa fn fc, .int .i64 T.st, .int .i64 T.ft, .slice la ln lc]
  r : VarN wr (w.heap.size + 1) [.int .i64 0, .int .i64 0, .int .i64 0, .int .i64 0, .int .i64 0, .int .i64 0, .int .i64 0, .int .i64 0, .int .i64 0, .slice none 0 0, .int .i64 0, .int .i64 0, .slice none 0 0]
  f : ThQ (fun b => w.heap.size + 2 ≤ b ∧ b ≠ v) wr fa fn fc la ln lc T
  b : Below w.heap.size w wr
  hv : w.heap.size + 2 ≤ v
set_option maxRecDepth 100000 in
set_option maxHeartbeats 16000000 in
theorem run_any (t : Thr) (self : Int) (ca : Option Addr) (cn cc : Nat) (c : List In4) (most : Int) (fa la : Option Addr) (fn fc ln lc : Nat) (w : World) (F : ThF w fa fn fc la ln lc t) (C : Vs repIn Any w ca cn c) (hcn : cn ≤ 1000) :
    Calls Try.prog 17 #[.agg #[.int .i64 t.pc, .int .i64 (t.r 0), .int .i64 (t.r 1), .int .i64 (t.r 2), .int .i64 (t.r 3), .int .i64 (t.r 4), .int .i64 (t.r 5), .int .i64 (t.r 6), .int .i64 (t.r 7), .slice fa fn fc, .int .i64 t.st, .int .i64 t.ft, .slice la ln lc], .int .i64 self, .slice ca cn cc, .int .i64 most] w (RunPost (rnT t self c most) (rnN t self c most) (rnE t self most) w) := by
  obtain ⟨W, hW⟩ : ∃ W, W = (w.alloc (Obj.cells #[.int .i64 t.pc, .int .i64 (t.r 0), .int .i64 (t.r 1), .int .i64 (t.r 2), .int .i64 (t.r 3), .int .i64 (t.r 4), .int .i64 (t.r 5), .int .i64 (t.r 6), .int .i64 (t.r 7), .slice fa fn fc, .int .i64 t.st, .int .i64 t.ft, .slice la ln lc] 27)).alloc (Obj.cells #[.int .i64 0, .int .i64 0, .int .i64 0, .int .i64 0, .int .i64 0, .int .i64 0, .int .i64 0, .int .i64 0, .int .i64 0, .slice none 0 0, .int .i64 0, .int .i64 0, .slice none 0 0] 27) := ⟨_, rfl⟩
  have X : VarN W w.heap.size [.int .i64 t.pc, .int .i64 (t.r 0), .int .i64 (t.r 1), .int .i64 (t.r 2), .int .i64 (t.r 3), .int .i64 (t.r 4), .int .i64 (t.r 5), .int .i64 (t.r 6), .int .i64 (t.r 7), .slice fa fn fc, .int .i64 t.st, .int .i64 t.ft, .slice la ln lc] := by rw [hW]; exact varN_A _ (varN_new [.int .i64 t.pc, .int .i64 (t.r 0), .int .i64 (t.r 1), .int .i64 (t.r 2), .int .i64 (t.r 3), .int .i64 (t.r 4), .int .i64 (t.r 5), .int .i64 (t.r 6), .int .i64 (t.r 7), .slice fa fn fc, .int .i64 t.st, .int .i64 t.ft, .slice la ln lc] _ rfl)
  have R : VarN W (w.heap.size + 1) [.int .i64 0, .int .i64 0, .int .i64 0, .int .i64 0, .int .i64 0, .int .i64 0, .int .i64 0, .int .i64 0, .int .i64 0, .slice none 0 0, .int .i64 0, .int .i64 0, .slice none 0 0] := by rw [hW]; exact varN_new [.int .i64 0, .int .i64 0, .int .i64 0, .int .i64 0, .int .i64 0, .int .i64 0, .int .i64 0, .int .i64 0, .int .i64 0, .slice none 0 0, .int .i64 0, .int .i64 0, .slice none 0 0] _ (by simp)
  have hB : Below w.heap.size w W := by rw [hW]; go_grown
  have hz : W.heap.size = w.heap.size + 2 := by rw [hW]; simp
  have hF : ThF W fa fn fc la ln lc t := thF_B hB F
  have HFl := Lib.hid (And.intro F.fs.1 F.lf.1)
  have HCL := Lib.hid C.1
  have HX := Lib.hid X
  have HR := Lib.hid R
  have HB := Lib.hid hB
  have HW := Lib.hid hW
  have HFW := Lib.hid hF
  have HF0 := Lib.hid F
  have HZW := Lib.hid hz
  have HC := Lib.hid C
  clear hW X R hB hF F C hz
  go_enter Try.func17, Try.ntmps17
  go_upto_region 1 with fail
  rw [← HW.out]
  by_cases hm : mayT7 t self = true
  · have hm' := Lib.hid hm
    clear hm
    go_wp2_with (refine wpList_load_mid rfl 27 _ rfl w.heap.size 0 rfl [.int .i64 t.pc, .int .i64 (t.r 0), .int .i64 (t.r 1), .int .i64 (t.r 2), .int .i64 (t.r 3), .int .i64 (t.r 4), .int .i64 (t.r 5), .int .i64 (t.r 6), .int .i64 (t.r 7), .slice fa fn fc, .int .i64 t.st, .int .i64 t.ft, .slice la ln lc] _ (varN_range HX.out) Try.underlying27 rfl (by kernel_rfl) ?_)
    refine (loMay_any t self fa la fn fc ln lc W HFW.out).mono ?_
    rintro e w1 ⟨rfl, hb1⟩
    rw [hm'.out]
    have HB1 := Lib.hid (below_from HB.out hb1)
    have HX1 := Lib.hid (varN_B hb1 HX.out)
    have HR1 := Lib.hid (varN_B hb1 HR.out)
    have HS1 := Lib.hid (show w.heap.size + 2 ≤ w1.heap.size by have := hb1.size; have := HZW.out; omega)
    clear hb1 HX HR HFW HB
    by_cases hq : 0 ≤ most ∧ most ≤ 1000
    · have HQ := Lib.hid hq
      clear hq
      go_wp2_with fail
      refine (loWithin_any most 1000 _).mono ?_
      rintro e w1' ⟨rfl, h⟩
      cases h
      rw [show decide (0 ≤ most ∧ most ≤ 1000) = true from decide_eq_true HQ.out]
      by_cases hy : readyT t = true
      · have hy' := Lib.hid hy
        clear hy
        go_wp2_with (refine wpList_load_mid rfl 27 _ rfl w.heap.size 0 rfl [.int .i64 t.pc, .int .i64 (t.r 0), .int .i64 (t.r 1), .int .i64 (t.r 2), .int .i64 (t.r 3), .int .i64 (t.r 4), .int .i64 (t.r 5), .int .i64 (t.r 6), .int .i64 (t.r 7), .slice fa fn fc, .int .i64 t.st, .int .i64 t.ft, .slice la ln lc] _ (varN_range HX1.out) Try.underlying27 rfl (by kernel_rfl) ?_)
        refine (loReady_any t fa la fn fc ln lc _ HFl.out.2).mono ?_
        rintro e w2 ⟨rfl, hb2⟩
        rw [hy'.out]
        have HB2 := Lib.hid (below_from HB1.out hb2)
        have HX2 := Lib.hid (varN_B hb2 HX1.out)
        have HR2 := Lib.hid (varN_B hb2 HR1.out)
        have HS2 := Lib.hid (show w.heap.size + 2 ≤ w2.heap.size by have := hb2.size; have := HS1.out; omega)
        clear hb2 HX1 HR1 HB1 HS1
        have HL := Lib.hid (show fn ≤ 1000 ∧ ln ≤ 1000 from by have h0 := hm'.out; simp only [mayT7, Bool.and_eq_true] at h0; have h := rightT_len h0.1; have h2 := HFl.out; omega)
        go_wp2_with (refine wpList_load_mid rfl 27 _ rfl w.heap.size 0 rfl [.int .i64 t.pc, .int .i64 (t.r 0), .int .i64 (t.r 1), .int .i64 (t.r 2), .int .i64 (t.r 3), .int .i64 (t.r 4), .int .i64 (t.r 5), .int .i64 (t.r 6), .int .i64 (t.r 7), .slice fa fn fc, .int .i64 t.st, .int .i64 t.ft, .slice la ln lc] _ (varN_range HX2.out) Try.underlying27 rfl (by kernel_rfl) ?_)
        have h0 := loCopied_any t fa la fn fc ln lc w2 (thF_B HB2.out HF0.out) HL.out.1 HL.out.2
        refine h0.mono ?_
        clear h0
        rintro e w3 ⟨fa2, fc2, la2, lc2, rfl, d1, -, d2, d3, d4, hb3⟩
        rw [HFl.out.1] at d1 d2 ⊢
        rw [HFl.out.2] at d3 d4 ⊢
        have HB3 := Lib.hid (below_from HB2.out hb3)
        have HR3 := Lib.hid (varN_B hb3 HR2.out)
        have HS3 := Lib.hid (show w.heap.size + 2 ≤ w3.heap.size by have := hb3.size; have := HS2.out; omega)
        have HQ3 : Hid (ThQ (fun b => w.heap.size + 2 ≤ b ∧ b < w3.heap.size) w3 fa2 fn fc2 la2 ln lc2 t) := ⟨d1, vs_mono (fun b hq => ⟨Nat.le_trans HS2.out hq.1, hq.2⟩) (vs_und d2), d3, vs_mono (fun b hq => ⟨Nat.le_trans HS2.out hq.1.1, hq.2⟩) (vs_und d4)⟩
        clear hb3 d1 d2 d3 d4 HX2 HB2 HR2
        obtain ⟨m, hmm⟩ : ∃ m : Nat, most = m := ⟨most.toNat, by have := HQ.out; omega⟩
        have HM := Lib.hid hmm
        have hrn := Lib.hid (show rnE t self most = 0 by rw [rnE, if_neg (fun h => h.elim (fun h => by rw [hm'.out] at h; cases h) (fun h => h HQ.out)), if_neg (by rw [hy'.out]; decide)])
        have hrT : Hid (rnT t self c most = (runN7 self c m t).1 ∧ (rnN t self c most : Int) = ((runN7 self c m t).2 : Nat)) := ⟨by rw [rnT, if_pos hrn.out, HM.out]; rfl, by rw [rnN, if_pos hrn.out, HM.out]; rfl⟩
        subst hmm
        go_wp2_with (refine wpList_store_var rfl 27 _ _ rfl w3.heap.size #[.int .i64 t.pc, .int .i64 (t.r 0), .int .i64 (t.r 1), .int .i64 (t.r 2), .int .i64 (t.r 3), .int .i64 (t.r 4), .int .i64 (t.r 5), .int .i64 (t.r 6), .int .i64 (t.r 7), .slice fa2 fn fc2, .int .i64 t.st, .int .i64 t.ft, .slice la2 ln lc2] rfl rfl _ (varN_new [.int .i64 0, .int .i64 0, .int .i64 0, .int .i64 0, .int .i64 0, .int .i64 0, .int .i64 0, .int .i64 0, .int .i64 0, .slice none 0 0, .int .i64 0, .int .i64 0, .slice none 0 0] w3.heap.size rfl) rfl (by kernel_rfl) (one_thr _ _ _ _ _ _ _) ?_; intro U HU)
        have hL0 : Hid (LoopR w self c m t w3.heap.size 0 t fa2 fn fc2 la2 ln lc2 U) := by
          have hU := HU.out
          refine ⟨ran_start hm'.out hy'.out, by rw [hU]; exact varN_all (xs := [.int .i64 t.pc, .int .i64 (t.r 0), .int .i64 (t.r 1), .int .i64 (t.r 2), .int .i64 (t.r 3), .int .i64 (t.r 4), .int .i64 (t.r 5), .int .i64 (t.r 6), .int .i64 (t.r 7), .slice fa2 fn fc2, .int .i64 t.st, .int .i64 t.ft, .slice la2 ln lc2]) (varN_new [.int .i64 0, .int .i64 0, .int .i64 0, .int .i64 0, .int .i64 0, .int .i64 0, .int .i64 0, .int .i64 0, .int .i64 0, .slice none 0 0, .int .i64 0, .int .i64 0, .slice none 0 0] w3.heap.size rfl) rfl, ?_, ?_, ?_, HS3.out⟩
          · rw [hU]; exact varN_others (by have := HS3.out; omega) (varN_A _ HR3.out)
          · rw [hU]; exact thQ_mono (fun b hq => by omega) (thQ_keep (kept_trans (kept_A _ _) (kept_setN (fun b hq => by omega))) HQ3.out)
          · rw [hU]; exact below_setN (by have := HS3.out; omega) (HB3.out.alloc HB3.out.size _)
        clear HU HQ3 HB3 HR3
        go_loopw [12] (fun i wr => ∃ (k : Nat) (T : Thr) (fa : Option Addr) (fn fc : Nat) (la : Option Addr) (ln lc : Nat), i = .int .i64 k ∧ Hid (LoopR w self c m t w3.heap.size k T fa fn fc la ln lc wr)) (fun i _ => m - (intOf i).toNat)
        case atStart => exact ⟨0, t, fa2, fn, fc2, la2, ln, lc2, rfl, hL0⟩
        case round =>
          clear hL0 HFl HS2 hm' hy' HL
          obtain ⟨k, T, fa, fn, fc, la, ln, lc, rfl, hL⟩ := hrel
          have hkm := hL.out.ran.1
          have HX5 := Lib.hid hL.out.x
          have HR5 := Lib.hid hL.out.r
          have kp := (HX5.out 0 _ rfl).1
          have HPC := Lib.hid (show 0 ≤ T.pc ∧ T.pc ≤ 1000 by have h := hL.out.ran.2.1; simp only [mayT7, Bool.and_eq_true] at h; exact rightT_pc h.1)
          by_cases hk : k < m
          · have i1 : (k : Int) < m := by omega
            have HKM := Lib.hid hk
            clear hk
            by_cases hpc : T.pc < cn
            · obtain ⟨j, hj⟩ : ∃ j : Nat, T.pc = j := ⟨T.pc.toNat, by have := HPC.out; omega⟩
              have HJ := Lib.hid hj
              have hjn : j < cn := by omega
              have HPN := Lib.hid hpc
              go_upto_region 7 with fail
              obtain ⟨cb, co, i, rfl, hi, -, hAt⟩ := vs_at HC.out hjn
              obtain ⟨ci, hci, hcc⟩ := hAt
              obtain rfl : ci = in4 i := hci
              have HCI := Lib.hid (show ∀ q v, ([.int .i64 i.1, .int .i64 i.2.1, .int .i64 i.2.2.1, .int .i64 i.2.2.2] : List Value)[q]? = some v → wr.cell? ⟨cb, co + j * 4 + q, none⟩ = some v from fun q v hq => kept_low hL.out.b (Q := fun b => b < w.heap.size) (fun _ h => h) _ _ _ (lt_of_cell (hcc q v hq)) (hcc q v hq))
              have HJN := Lib.hid (show (0 : Int) ≤ j ∧ (j : Int) < cn ∧ (cn : Int) ≤ 1000 from ⟨by omega, by omega, by omega⟩)
              have HI := Lib.hid (show c.getD T.pc.toNat (0, 0, 0, 0) = i by rw [HJ.out, Int.toNat_natCast, List.getD_eq_getElem?_getD, hi]; rfl)
              obtain ⟨z, hz⟩ : ∃ z, apT T self i = z := ⟨_, rfl⟩
              obtain ⟨x, hx⟩ : ∃ x, apE T self i = x := ⟨_, rfl⟩
              have HZ := Lib.hid hz
              have HXE := Lib.hid hx
              have HF := Lib.hid hL.out.f.f
              have HGV := Lib.hid (show w3.heap.size < wr.heap.size from varN_lt hL.out.x (by simp))
              have HX := HX5
              clear hz hx hj hi hcc hpc hjn kp i1
              refine wp_region_inv (InvR T self i j w3.heap.size fa la fn fc ln lc cb co cn cc z x) (by kernel_rfl) (by kernel_rfl) ?_ ?_ ?_
              · intro listed hl
                exact .mk u42 u43 u44 u45 u46 u47 u48 u49 u41 u50 u51 u13 u14 none 0 0 none 0 0 0 [] (by simp only [Act.put, List.setIfInBounds_toArray, List.set_cons_zero, List.set_cons_succ]) (⟨(Below.refl _ _).drew, varN_D HX.out⟩) (fun h => absurd h (hl 0 (by decide))) (fun h => absurd h (hl 1 (by decide))) (fun h => absurd h (hl 2 (by decide))) (fun h => absurd h (hl 3 (by decide))) (fun h => absurd h (hl 4 (by decide))) (fun h => absurd h (hl 5 (by decide))) (fun h => absurd h (hl 6 (by decide))) (fun h => absurd h (hl 7 (by decide))) (fun h => absurd h (hl 8 (by decide))) (fun h => absurd h (hl 8 (by decide))) (fun h => absurd h (hl 9 (by decide))) (fun h => absurd h (hl 9 (by decide))) (fun h => absurd h (hl 10 (by decide))) (fun h => absurd h (hl 11 (by decide))) (fun h => absurd h (hl 12 (by decide))) (fun h => absurd h (hl 13 (by decide)))
              · show StepsL _ _ _ _ _ _ _
                refine StepsL.cons (k := 0) rfl (fun listed a1 w1 hI hn hw K hK => ?_) ?_
                · cases hI with | mk p42 p43 p44 p45 p46 p47 p48 p49 p41 p50 p51 p13 p14 fa3 fn3 fc3 la3 ln3 lc3 u xs ea hb hf0 hf1 hf2 hf3 hf4 hf5 hf6 hD hf8 hW8 hf9 hW9 hf10 hA hS hf13 =>
                    have Hhf0 := Lib.hid hf0
                    have Hhf1 := Lib.hid hf1
                    have Hhf2 := Lib.hid hf2
                    have Hhf3 := Lib.hid hf3
                    have Hhf4 := Lib.hid hf4
                    have Hhf5 := Lib.hid hf5
                    have Hhf6 := Lib.hid hf6
                    have HhD := Lib.hid hD
                    have Hhf8 := Lib.hid hf8
                    have HhW8 := Lib.hid hW8
                    have Hhf9 := Lib.hid hf9
                    have HhW9 := Lib.hid hW9
                    have Hhf10 := Lib.hid hf10
                    have HhA := Lib.hid hA
                    have HhS := Lib.hid hS
                    have Hhf13 := Lib.hid hf13
                    have Hhb := Lib.hid hb
                    have Hhw := Lib.hid hw
                    clear hf0 hf1 hf2 hf3 hf4 hf5 hf6 hD hf8 hW8 hf9 hW9 hf10 hA hS hf13 hb hw
                    rw [ea]
                    clear ea
                    simp only [Act.put, List.setIfInBounds_toArray, List.set_cons_zero, List.set_cons_succ]
                    refine step_pos (by rfl) ?_
                    refine wp_load_mid 27 _ rfl w3.heap.size 0 rfl [.int .i64 T.pc, .int .i64 (T.r 0), .int .i64 (T.r 1), .int .i64 (T.r 2), .int .i64 (T.r 3), .int .i64 (T.r 4), .int .i64 (T.r 5), .int .i64 (T.r 6), .int .i64 (T.r 7), .slice fa fn fc, .int .i64 T.st, .int .i64 T.ft, .slice la ln lc] _ (varN_range Hhb.out.2) Try.underlying27 rfl (by kernel_rfl) ?_
                    have hf0 := Hhf0.out
                    have hf1 := Hhf1.out
                    have hf2 := Hhf2.out
                    have hf3 := Hhf3.out
                    have hf4 := Hhf4.out
                    have hf5 := Hhf5.out
                    have hf6 := Hhf6.out
                    have hD := HhD.out
                    have hf8 := Hhf8.out
                    have hW8 := HhW8.out
                    have hf9 := Hhf9.out
                    have hW9 := HhW9.out
                    have hf10 := Hhf10.out
                    have hA := HhA.out
                    have hS := HhS.out
                    have hf13 := Hhf13.out
                    have hb := Hhb.out
                    have hw := Hhw.out
                    refine hK.out _ _ ?_
                    exact .mk (.agg #[.int .i64 T.pc, .int .i64 (T.r 0), .int .i64 (T.r 1), .int .i64 (T.r 2), .int .i64 (T.r 3), .int .i64 (T.r 4), .int .i64 (T.r 5), .int .i64 (T.r 6), .int .i64 (T.r 7), .slice fa fn fc, .int .i64 T.st, .int .i64 T.ft, .slice la ln lc]) p43 p44 p45 p46 p47 p48 p49 p41 p50 p51 p13 p14 fa3 fn3 fc3 la3 ln3 lc3 u xs (by simp only [Act.put, List.setIfInBounds_toArray, List.set_cons_zero, List.set_cons_succ]) (hb) (fun _ => rfl) (fun h => hf1 (up_back h (by decide))) (fun h => hf2 (up_back h (by decide))) (fun h => hf3 (up_back h (by decide))) (fun h => hf4 (up_back h (by decide))) (fun h => hf5 (up_back h (by decide))) (fun h => hf6 (up_back h (by decide))) (fun h => ⟨(hD (up_back h (by decide))).1, thQ_mono (fun b hq => ⟨hq.1, fun hu => hq.2 (up_back hu (by decide))⟩) (hD (up_back h (by decide))).2⟩) (fun h => hf8 (up_back h (by decide))) (fun h => up_old (hW8 (up_back h (by decide)))) (fun h => hf9 (up_back h (by decide))) (fun h => up_old (hW9 (up_back h (by decide)))) (fun h => hf10 (up_back h (by decide))) (fun h => hA (up_back h (by decide))) (fun h => ⟨up_old (hS (up_back h (by decide))).1, up_old (hS (up_back h (by decide))).2.1, (hS (up_back h (by decide))).2.2⟩) (fun h => hf13 (up_back h (by decide)))
                refine StepsL.cons (k := 1) rfl (fun listed a1 w1 hI hn hw K hK => ?_) ?_
                · cases hI with | mk p42 p43 p44 p45 p46 p47 p48 p49 p41 p50 p51 p13 p14 fa3 fn3 fc3 la3 ln3 lc3 u xs ea hb hf0 hf1 hf2 hf3 hf4 hf5 hf6 hD hf8 hW8 hf9 hW9 hf10 hA hS hf13 =>
                    have Hhf0 := Lib.hid hf0
                    have Hhf1 := Lib.hid hf1
                    have Hhf2 := Lib.hid hf2
                    have Hhf3 := Lib.hid hf3
                    have Hhf4 := Lib.hid hf4
                    have Hhf5 := Lib.hid hf5
                    have Hhf6 := Lib.hid hf6
                    have HhD := Lib.hid hD
                    have Hhf8 := Lib.hid hf8
                    have HhW8 := Lib.hid hW8
                    have Hhf9 := Lib.hid hf9
                    have HhW9 := Lib.hid hW9
                    have Hhf10 := Lib.hid hf10
                    have HhA := Lib.hid hA
                    have HhS := Lib.hid hS
                    have Hhf13 := Lib.hid hf13
                    have Hhb := Lib.hid hb
                    have Hhw := Lib.hid hw
                    clear hf0 hf1 hf2 hf3 hf4 hf5 hf6 hD hf8 hW8 hf9 hW9 hf10 hA hS hf13 hb hw
                    rw [ea]
                    clear ea
                    simp only [Act.put, List.setIfInBounds_toArray, List.set_cons_zero, List.set_cons_succ]
                    go_simp
                    have hf0 := Hhf0.out
                    have hf1 := Hhf1.out
                    have hf2 := Hhf2.out
                    have hf3 := Hhf3.out
                    have hf4 := Hhf4.out
                    have hf5 := Hhf5.out
                    have hf6 := Hhf6.out
                    have hD := HhD.out
                    have hf8 := Hhf8.out
                    have hW8 := HhW8.out
                    have hf9 := Hhf9.out
                    have hW9 := HhW9.out
                    have hf10 := Hhf10.out
                    have hA := HhA.out
                    have hS := HhS.out
                    have hf13 := Hhf13.out
                    have hb := Hhb.out
                    have hw := Hhw.out
                    refine hK.out _ _ ?_
                    exact .mk p42 (.int .i64 self) p44 p45 p46 p47 p48 p49 p41 p50 p51 p13 p14 fa3 fn3 fc3 la3 ln3 lc3 u xs (by simp only [Act.put, List.setIfInBounds_toArray, List.set_cons_zero, List.set_cons_succ]) (hb) (fun h => hf0 (up_back h (by decide))) (fun _ => rfl) (fun h => hf2 (up_back h (by decide))) (fun h => hf3 (up_back h (by decide))) (fun h => hf4 (up_back h (by decide))) (fun h => hf5 (up_back h (by decide))) (fun h => hf6 (up_back h (by decide))) (fun h => ⟨(hD (up_back h (by decide))).1, thQ_mono (fun b hq => ⟨hq.1, fun hu => hq.2 (up_back hu (by decide))⟩) (hD (up_back h (by decide))).2⟩) (fun h => hf8 (up_back h (by decide))) (fun h => up_old (hW8 (up_back h (by decide)))) (fun h => hf9 (up_back h (by decide))) (fun h => up_old (hW9 (up_back h (by decide)))) (fun h => hf10 (up_back h (by decide))) (fun h => hA (up_back h (by decide))) (fun h => ⟨up_old (hS (up_back h (by decide))).1, up_old (hS (up_back h (by decide))).2.1, (hS (up_back h (by decide))).2.2⟩) (fun h => hf13 (up_back h (by decide)))
                refine StepsL.cons (k := 2) rfl (fun listed a1 w1 hI hn hw K hK => ?_) ?_
                · cases hI with | mk p42 p43 p44 p45 p46 p47 p48 p49 p41 p50 p51 p13 p14 fa3 fn3 fc3 la3 ln3 lc3 u xs ea hb hf0 hf1 hf2 hf3 hf4 hf5 hf6 hD hf8 hW8 hf9 hW9 hf10 hA hS hf13 =>
                    have Hhf0 := Lib.hid hf0
                    have Hhf1 := Lib.hid hf1
                    have Hhf2 := Lib.hid hf2
                    have Hhf3 := Lib.hid hf3
                    have Hhf4 := Lib.hid hf4
                    have Hhf5 := Lib.hid hf5
                    have Hhf6 := Lib.hid hf6
                    have HhD := Lib.hid hD
                    have Hhf8 := Lib.hid hf8
                    have HhW8 := Lib.hid hW8
                    have Hhf9 := Lib.hid hf9
                    have HhW9 := Lib.hid hW9
                    have Hhf10 := Lib.hid hf10
                    have HhA := Lib.hid hA
                    have HhS := Lib.hid hS
                    have Hhf13 := Lib.hid hf13
                    have Hhb := Lib.hid hb
                    have Hhw := Lib.hid hw
                    clear hf0 hf1 hf2 hf3 hf4 hf5 hf6 hD hf8 hW8 hf9 hW9 hf10 hA hS hf13 hb hw
                    rw [ea]
                    clear ea
                    simp only [Act.put, List.setIfInBounds_toArray, List.set_cons_zero, List.set_cons_succ]
                    go_simp
                    have hf0 := Hhf0.out
                    have hf1 := Hhf1.out
                    have hf2 := Hhf2.out
                    have hf3 := Hhf3.out
                    have hf4 := Hhf4.out
                    have hf5 := Hhf5.out
                    have hf6 := Hhf6.out
                    have hD := HhD.out
                    have hf8 := Hhf8.out
                    have hW8 := HhW8.out
                    have hf9 := Hhf9.out
                    have hW9 := HhW9.out
                    have hf10 := Hhf10.out
                    have hA := HhA.out
                    have hS := HhS.out
                    have hf13 := Hhf13.out
                    have hb := Hhb.out
                    have hw := Hhw.out
                    refine hK.out _ _ ?_
                    exact .mk p42 p43 (.slice (some ⟨cb, co, none⟩) cn cc) p45 p46 p47 p48 p49 p41 p50 p51 p13 p14 fa3 fn3 fc3 la3 ln3 lc3 u xs (by simp only [Act.put, List.setIfInBounds_toArray, List.set_cons_zero, List.set_cons_succ]) (hb) (fun h => hf0 (up_back h (by decide))) (fun h => hf1 (up_back h (by decide))) (fun _ => rfl) (fun h => hf3 (up_back h (by decide))) (fun h => hf4 (up_back h (by decide))) (fun h => hf5 (up_back h (by decide))) (fun h => hf6 (up_back h (by decide))) (fun h => ⟨(hD (up_back h (by decide))).1, thQ_mono (fun b hq => ⟨hq.1, fun hu => hq.2 (up_back hu (by decide))⟩) (hD (up_back h (by decide))).2⟩) (fun h => hf8 (up_back h (by decide))) (fun h => up_old (hW8 (up_back h (by decide)))) (fun h => hf9 (up_back h (by decide))) (fun h => up_old (hW9 (up_back h (by decide)))) (fun h => hf10 (up_back h (by decide))) (fun h => hA (up_back h (by decide))) (fun h => ⟨up_old (hS (up_back h (by decide))).1, up_old (hS (up_back h (by decide))).2.1, (hS (up_back h (by decide))).2.2⟩) (fun h => hf13 (up_back h (by decide)))
                refine StepsL.cons (k := 3) rfl (fun listed a1 w1 hI hn hw K hK => ?_) ?_
                · cases hI with | mk p42 p43 p44 p45 p46 p47 p48 p49 p41 p50 p51 p13 p14 fa3 fn3 fc3 la3 ln3 lc3 u xs ea hb hf0 hf1 hf2 hf3 hf4 hf5 hf6 hD hf8 hW8 hf9 hW9 hf10 hA hS hf13 =>
                    have Hhf0 := Lib.hid hf0
                    have Hhf1 := Lib.hid hf1
                    have Hhf2 := Lib.hid hf2
                    have Hhf3 := Lib.hid hf3
                    have Hhf4 := Lib.hid hf4
                    have Hhf5 := Lib.hid hf5
                    have Hhf6 := Lib.hid hf6
                    have HhD := Lib.hid hD
                    have Hhf8 := Lib.hid hf8
                    have HhW8 := Lib.hid hW8
                    have Hhf9 := Lib.hid hf9
                    have HhW9 := Lib.hid hW9
                    have Hhf10 := Lib.hid hf10
                    have HhA := Lib.hid hA
                    have HhS := Lib.hid hS
                    have Hhf13 := Lib.hid hf13
                    have Hhb := Lib.hid hb
                    have Hhw := Lib.hid hw
                    clear hf0 hf1 hf2 hf3 hf4 hf5 hf6 hD hf8 hW8 hf9 hW9 hf10 hA hS hf13 hb hw
                    rw [ea]
                    clear ea
                    simp only [Act.put, List.setIfInBounds_toArray, List.set_cons_zero, List.set_cons_succ]
                    go_simp
                    have hf0 := Hhf0.out
                    have hf1 := Hhf1.out
                    have hf2 := Hhf2.out
                    have hf3 := Hhf3.out
                    have hf4 := Hhf4.out
                    have hf5 := Hhf5.out
                    have hf6 := Hhf6.out
                    have hD := HhD.out
                    have hf8 := Hhf8.out
                    have hW8 := HhW8.out
                    have hf9 := Hhf9.out
                    have hW9 := HhW9.out
                    have hf10 := Hhf10.out
                    have hA := HhA.out
                    have hS := HhS.out
                    have hf13 := Hhf13.out
                    have hb := Hhb.out
                    have hw := Hhw.out
                    refine hK.out _ _ ?_
                    exact .mk p42 p43 p44 (.pointer (some ⟨w3.heap.size, 0, none⟩)) p46 p47 p48 p49 p41 p50 p51 p13 p14 fa3 fn3 fc3 la3 ln3 lc3 u xs (by simp only [Act.put, List.setIfInBounds_toArray, List.set_cons_zero, List.set_cons_succ]) (hb) (fun h => hf0 (up_back h (by decide))) (fun h => hf1 (up_back h (by decide))) (fun h => hf2 (up_back h (by decide))) (fun _ => rfl) (fun h => hf4 (up_back h (by decide))) (fun h => hf5 (up_back h (by decide))) (fun h => hf6 (up_back h (by decide))) (fun h => ⟨(hD (up_back h (by decide))).1, thQ_mono (fun b hq => ⟨hq.1, fun hu => hq.2 (up_back hu (by decide))⟩) (hD (up_back h (by decide))).2⟩) (fun h => hf8 (up_back h (by decide))) (fun h => up_old (hW8 (up_back h (by decide)))) (fun h => hf9 (up_back h (by decide))) (fun h => up_old (hW9 (up_back h (by decide)))) (fun h => hf10 (up_back h (by decide))) (fun h => hA (up_back h (by decide))) (fun h => ⟨up_old (hS (up_back h (by decide))).1, up_old (hS (up_back h (by decide))).2.1, (hS (up_back h (by decide))).2.2⟩) (fun h => hf13 (up_back h (by decide)))
                refine StepsL.cons (k := 4) rfl (fun listed a1 w1 hI hn hw K hK => ?_) ?_
                · cases hI with | mk p42 p43 p44 p45 p46 p47 p48 p49 p41 p50 p51 p13 p14 fa3 fn3 fc3 la3 ln3 lc3 u xs ea hb hf0 hf1 hf2 hf3 hf4 hf5 hf6 hD hf8 hW8 hf9 hW9 hf10 hA hS hf13 =>
                    have e_f3 := hf3 (hw 3 (by decide))
                    subst e_f3
                    have kc := (hb.2 0 _ rfl).1
                    rw [HJ.out] at kc
                    have Hhf0 := Lib.hid hf0
                    have Hhf1 := Lib.hid hf1
                    have Hhf2 := Lib.hid hf2
                    have Hhf3 := Lib.hid hf3
                    have Hhf4 := Lib.hid hf4
                    have Hhf5 := Lib.hid hf5
                    have Hhf6 := Lib.hid hf6
                    have HhD := Lib.hid hD
                    have Hhf8 := Lib.hid hf8
                    have HhW8 := Lib.hid hW8
                    have Hhf9 := Lib.hid hf9
                    have HhW9 := Lib.hid hW9
                    have Hhf10 := Lib.hid hf10
                    have HhA := Lib.hid hA
                    have HhS := Lib.hid hS
                    have Hhf13 := Lib.hid hf13
                    have Hhb := Lib.hid hb
                    have Hhw := Lib.hid hw
                    clear hf0 hf1 hf2 hf3 hf4 hf5 hf6 hD hf8 hW8 hf9 hW9 hf10 hA hS hf13 hb hw
                    rw [ea]
                    clear ea
                    simp only [Act.put, List.setIfInBounds_toArray, List.set_cons_zero, List.set_cons_succ]
                    go_simp
                    have hf0 := Hhf0.out
                    have hf1 := Hhf1.out
                    have hf2 := Hhf2.out
                    have hf3 := Hhf3.out
                    have hf4 := Hhf4.out
                    have hf5 := Hhf5.out
                    have hf6 := Hhf6.out
                    have hD := HhD.out
                    have hf8 := Hhf8.out
                    have hW8 := HhW8.out
                    have hf9 := Hhf9.out
                    have hW9 := HhW9.out
                    have hf10 := Hhf10.out
                    have hA := HhA.out
                    have hS := HhS.out
                    have hf13 := Hhf13.out
                    have hb := Hhb.out
                    have hw := Hhw.out
                    refine hK.out _ _ ?_
                    exact .mk p42 p43 p44 (.pointer (some ⟨w3.heap.size, 0, none⟩)) (.int .i64 (j : Nat)) p47 p48 p49 p41 p50 p51 p13 p14 fa3 fn3 fc3 la3 ln3 lc3 u xs (by simp only [Act.put, List.setIfInBounds_toArray, List.set_cons_zero, List.set_cons_succ]) (hb) (fun h => hf0 (up_back h (by decide))) (fun h => hf1 (up_back h (by decide))) (fun h => hf2 (up_back h (by decide))) (fun _ => rfl) (fun _ => rfl) (fun h => hf5 (up_back h (by decide))) (fun h => hf6 (up_back h (by decide))) (fun h => ⟨(hD (up_back h (by decide))).1, thQ_mono (fun b hq => ⟨hq.1, fun hu => hq.2 (up_back hu (by decide))⟩) (hD (up_back h (by decide))).2⟩) (fun h => hf8 (up_back h (by decide))) (fun h => up_old (hW8 (up_back h (by decide)))) (fun h => hf9 (up_back h (by decide))) (fun h => up_old (hW9 (up_back h (by decide)))) (fun h => hf10 (up_back h (by decide))) (fun h => hA (up_back h (by decide))) (fun h => ⟨up_old (hS (up_back h (by decide))).1, up_old (hS (up_back h (by decide))).2.1, (hS (up_back h (by decide))).2.2⟩) (fun h => hf13 (up_back h (by decide)))
                refine StepsL.cons (k := 5) rfl (fun listed a1 w1 hI hn hw K hK => ?_) ?_
                · cases hI with | mk p42 p43 p44 p45 p46 p47 p48 p49 p41 p50 p51 p13 p14 fa3 fn3 fc3 la3 ln3 lc3 u xs ea hb hf0 hf1 hf2 hf3 hf4 hf5 hf6 hD hf8 hW8 hf9 hW9 hf10 hA hS hf13 =>
                    have e_f2 := hf2 (hw 2 (by decide))
                    have e_f4 := hf4 (hw 4 (by decide))
                    subst e_f2 e_f4
                    have hj1 := HJN.out.1
                    have hj2 := HJN.out.2.1
                    have hj3 := HJN.out.2.2
                    have Hhf0 := Lib.hid hf0
                    have Hhf1 := Lib.hid hf1
                    have Hhf2 := Lib.hid hf2
                    have Hhf3 := Lib.hid hf3
                    have Hhf4 := Lib.hid hf4
                    have Hhf5 := Lib.hid hf5
                    have Hhf6 := Lib.hid hf6
                    have HhD := Lib.hid hD
                    have Hhf8 := Lib.hid hf8
                    have HhW8 := Lib.hid hW8
                    have Hhf9 := Lib.hid hf9
                    have HhW9 := Lib.hid hW9
                    have Hhf10 := Lib.hid hf10
                    have HhA := Lib.hid hA
                    have HhS := Lib.hid hS
                    have Hhf13 := Lib.hid hf13
                    have Hhb := Lib.hid hb
                    have Hhw := Lib.hid hw
                    clear hf0 hf1 hf2 hf3 hf4 hf5 hf6 hD hf8 hW8 hf9 hW9 hf10 hA hS hf13 hb hw
                    rw [ea]
                    clear ea
                    simp only [Act.put, List.setIfInBounds_toArray, List.set_cons_zero, List.set_cons_succ]
                    go_simp
                    have hf0 := Hhf0.out
                    have hf1 := Hhf1.out
                    have hf2 := Hhf2.out
                    have hf3 := Hhf3.out
                    have hf4 := Hhf4.out
                    have hf5 := Hhf5.out
                    have hf6 := Hhf6.out
                    have hD := HhD.out
                    have hf8 := Hhf8.out
                    have hW8 := HhW8.out
                    have hf9 := Hhf9.out
                    have hW9 := HhW9.out
                    have hf10 := Hhf10.out
                    have hA := HhA.out
                    have hS := HhS.out
                    have hf13 := Hhf13.out
                    have hb := Hhb.out
                    have hw := Hhw.out
                    refine hK.out _ _ ?_
                    exact .mk p42 p43 (.slice (some ⟨cb, co, none⟩) cn cc) p45 (.int .i64 (j : Nat)) (.pointer (some ⟨cb, co + j * 4, none⟩)) p48 p49 p41 p50 p51 p13 p14 fa3 fn3 fc3 la3 ln3 lc3 u xs (by simp only [Act.put, List.setIfInBounds_toArray, List.set_cons_zero, List.set_cons_succ]) (hb) (fun h => hf0 (up_back h (by decide))) (fun h => hf1 (up_back h (by decide))) (fun _ => rfl) (fun h => hf3 (up_back h (by decide))) (fun _ => rfl) (fun _ => rfl) (fun h => hf6 (up_back h (by decide))) (fun h => ⟨(hD (up_back h (by decide))).1, thQ_mono (fun b hq => ⟨hq.1, fun hu => hq.2 (up_back hu (by decide))⟩) (hD (up_back h (by decide))).2⟩) (fun h => hf8 (up_back h (by decide))) (fun h => up_old (hW8 (up_back h (by decide)))) (fun h => hf9 (up_back h (by decide))) (fun h => up_old (hW9 (up_back h (by decide)))) (fun h => hf10 (up_back h (by decide))) (fun h => hA (up_back h (by decide))) (fun h => ⟨up_old (hS (up_back h (by decide))).1, up_old (hS (up_back h (by decide))).2.1, (hS (up_back h (by decide))).2.2⟩) (fun h => hf13 (up_back h (by decide)))
                refine StepsL.cons (k := 6) rfl (fun listed a1 w1 hI hn hw K hK => ?_) ?_
                · cases hI with | mk p42 p43 p44 p45 p46 p47 p48 p49 p41 p50 p51 p13 p14 fa3 fn3 fc3 la3 ln3 lc3 u xs ea hb hf0 hf1 hf2 hf3 hf4 hf5 hf6 hD hf8 hW8 hf9 hW9 hf10 hA hS hf13 =>
                    have e_f5 := hf5 (hw 5 (by decide))
                    subst e_f5
                    have Hhf0 := Lib.hid hf0
                    have Hhf1 := Lib.hid hf1
                    have Hhf2 := Lib.hid hf2
                    have Hhf3 := Lib.hid hf3
                    have Hhf4 := Lib.hid hf4
                    have Hhf5 := Lib.hid hf5
                    have Hhf6 := Lib.hid hf6
                    have HhD := Lib.hid hD
                    have Hhf8 := Lib.hid hf8
                    have HhW8 := Lib.hid hW8
                    have Hhf9 := Lib.hid hf9
                    have HhW9 := Lib.hid hW9
                    have Hhf10 := Lib.hid hf10
                    have HhA := Lib.hid hA
                    have HhS := Lib.hid hS
                    have Hhf13 := Lib.hid hf13
                    have Hhb := Lib.hid hb
                    have Hhw := Lib.hid hw
                    clear hf0 hf1 hf2 hf3 hf4 hf5 hf6 hD hf8 hW8 hf9 hW9 hf10 hA hS hf13 hb hw
                    rw [ea]
                    clear ea
                    simp only [Act.put, List.setIfInBounds_toArray, List.set_cons_zero, List.set_cons_succ]
                    refine step_pos (by rfl) ?_
                    refine wp_load_mid 29 _ rfl cb (co + j * 4) rfl [.int .i64 i.1, .int .i64 i.2.1, .int .i64 i.2.2.1, .int .i64 i.2.2.2] _ (fun q v hq => kept_B Hhb.out.1 (Q := Any) _ _ _ trivial (HCI.out q v hq)) Try.underlying29 rfl (by kernel_rfl) ?_
                    have hf0 := Hhf0.out
                    have hf1 := Hhf1.out
                    have hf2 := Hhf2.out
                    have hf3 := Hhf3.out
                    have hf4 := Hhf4.out
                    have hf5 := Hhf5.out
                    have hf6 := Hhf6.out
                    have hD := HhD.out
                    have hf8 := Hhf8.out
                    have hW8 := HhW8.out
                    have hf9 := Hhf9.out
                    have hW9 := HhW9.out
                    have hf10 := Hhf10.out
                    have hA := HhA.out
                    have hS := HhS.out
                    have hf13 := Hhf13.out
                    have hb := Hhb.out
                    have hw := Hhw.out
                    refine hK.out _ _ ?_
                    exact .mk p42 p43 p44 p45 p46 (.pointer (some ⟨cb, co + j * 4, none⟩)) (.agg #[.int .i64 i.1, .int .i64 i.2.1, .int .i64 i.2.2.1, .int .i64 i.2.2.2]) p49 p41 p50 p51 p13 p14 fa3 fn3 fc3 la3 ln3 lc3 u xs (by simp only [Act.put, List.setIfInBounds_toArray, List.set_cons_zero, List.set_cons_succ]) (hb) (fun h => hf0 (up_back h (by decide))) (fun h => hf1 (up_back h (by decide))) (fun h => hf2 (up_back h (by decide))) (fun h => hf3 (up_back h (by decide))) (fun h => hf4 (up_back h (by decide))) (fun _ => rfl) (fun _ => rfl) (fun h => ⟨(hD (up_back h (by decide))).1, thQ_mono (fun b hq => ⟨hq.1, fun hu => hq.2 (up_back hu (by decide))⟩) (hD (up_back h (by decide))).2⟩) (fun h => hf8 (up_back h (by decide))) (fun h => up_old (hW8 (up_back h (by decide)))) (fun h => hf9 (up_back h (by decide))) (fun h => up_old (hW9 (up_back h (by decide)))) (fun h => hf10 (up_back h (by decide))) (fun h => hA (up_back h (by decide))) (fun h => ⟨up_old (hS (up_back h (by decide))).1, up_old (hS (up_back h (by decide))).2.1, (hS (up_back h (by decide))).2.2⟩) (fun h => hf13 (up_back h (by decide)))
                refine StepsL.cons (k := 7) rfl (fun listed a1 w1 hI hn hw K hK => ?_) ?_
                · cases hI with | mk p42 p43 p44 p45 p46 p47 p48 p49 p41 p50 p51 p13 p14 fa3 fn3 fc3 la3 ln3 lc3 u xs ea hb hf0 hf1 hf2 hf3 hf4 hf5 hf6 hD hf8 hW8 hf9 hW9 hf10 hA hS hf13 =>
                    have e_f0 := hf0 (hw 0 (by decide))
                    have e_f1 := hf1 (hw 1 (by decide))
                    have e_f6 := hf6 (hw 6 (by decide))
                    subst e_f0 e_f1 e_f6
                    have HSZ1 := hb.1.size
                    have Hhf0 := Lib.hid hf0
                    have Hhf1 := Lib.hid hf1
                    have Hhf2 := Lib.hid hf2
                    have Hhf3 := Lib.hid hf3
                    have Hhf4 := Lib.hid hf4
                    have Hhf5 := Lib.hid hf5
                    have Hhf6 := Lib.hid hf6
                    have HhD := Lib.hid hD
                    have Hhf8 := Lib.hid hf8
                    have HhW8 := Lib.hid hW8
                    have Hhf9 := Lib.hid hf9
                    have HhW9 := Lib.hid hW9
                    have Hhf10 := Lib.hid hf10
                    have HhA := Lib.hid hA
                    have HhS := Lib.hid hS
                    have Hhf13 := Lib.hid hf13
                    have Hhb := Lib.hid hb
                    have Hhw := Lib.hid hw
                    clear hf0 hf1 hf2 hf3 hf4 hf5 hf6 hD hf8 hW8 hf9 hW9 hf10 hA hS hf13 hb hw
                    rw [ea]
                    clear ea
                    simp only [Act.put, List.setIfInBounds_toArray, List.set_cons_zero, List.set_cons_succ]
                    refine step_pos (by rfl) ?_
                    have h0 := apply_any T self i fa la fn fc ln lc w1 (thF_B Hhb.out.1 HF.out)
                    rw [HZ.out, HXE.out] at h0
                    refine wp_calls _ _ _ rfl 9 rfl [.agg #[.int .i64 T.pc, .int .i64 (T.r 0), .int .i64 (T.r 1), .int .i64 (T.r 2), .int .i64 (T.r 3), .int .i64 (T.r 4), .int .i64 (T.r 5), .int .i64 (T.r 6), .int .i64 (T.r 7), .slice fa fn fc, .int .i64 T.st, .int .i64 T.ft, .slice la ln lc], .int .i64 self, .agg #[.int .i64 i.1, .int .i64 i.2.1, .int .i64 i.2.2.1, .int .i64 i.2.2.2]] rfl (by kernel_rfl) (h0.mono ?_)
                    rintro e w2 ⟨fa9, fc9, la9, lc9, rfl, hq9, hb2⟩
                    refine ⟨_, rfl, ?_⟩
                    have hf0 := Hhf0.out
                    have hf1 := Hhf1.out
                    have hf2 := Hhf2.out
                    have hf3 := Hhf3.out
                    have hf4 := Hhf4.out
                    have hf5 := Hhf5.out
                    have hf6 := Hhf6.out
                    have hD := HhD.out
                    have hf8 := Hhf8.out
                    have hW8 := HhW8.out
                    have hf9 := Hhf9.out
                    have hW9 := HhW9.out
                    have hf10 := Hhf10.out
                    have hA := HhA.out
                    have hS := HhS.out
                    have hf13 := Hhf13.out
                    have hb := Hhb.out
                    have hw := Hhw.out
                    refine hK.out _ _ ?_
                    exact .mk (.agg #[.int .i64 T.pc, .int .i64 (T.r 0), .int .i64 (T.r 1), .int .i64 (T.r 2), .int .i64 (T.r 3), .int .i64 (T.r 4), .int .i64 (T.r 5), .int .i64 (T.r 6), .int .i64 (T.r 7), .slice fa fn fc, .int .i64 T.st, .int .i64 T.ft, .slice la ln lc]) (.int .i64 self) p44 p45 p46 p47 (.agg #[.int .i64 i.1, .int .i64 i.2.1, .int .i64 i.2.2.1, .int .i64 i.2.2.2]) (.tuple #[.agg #[.int .i64 z.pc, .int .i64 (z.r 0), .int .i64 (z.r 1), .int .i64 (z.r 2), .int .i64 (z.r 3), .int .i64 (z.r 4), .int .i64 (z.r 5), .int .i64 (z.r 6), .int .i64 (z.r 7), .slice fa9 z.fs.length fc9, .int .i64 z.st, .int .i64 z.ft, .slice la9 z.lf.length lc9], .int .i64 x]) p41 p50 p51 p13 p14 fa9 z.fs.length fc9 la9 z.lf.length lc9 u xs (by simp only [Act.put, List.setIfInBounds_toArray, List.set_cons_zero, List.set_cons_succ]) (⟨below_from hb.1 hb2, varN_B hb2 hb.2⟩) (fun _ => rfl) (fun _ => rfl) (fun h => hf2 (up_back h (by decide))) (fun h => hf3 (up_back h (by decide))) (fun h => hf4 (up_back h (by decide))) (fun h => hf5 (up_back h (by decide))) (fun _ => rfl) (fun _ => ⟨rfl, thQ_mono (fun b hq => ⟨Nat.le_trans HSZ1 hq, fun hu => by have := varN_lt (hA (up_back hu (by decide))).2.2.1 (by have := (hA (up_back hu (by decide))).2.2.2; omega); omega⟩) hq9⟩) (fun h => absurd (hW8 (up_back h (by decide))) hn) (fun h => up_old (hW8 (up_back h (by decide)))) (fun h => absurd (hW9 (up_back h (by decide))) hn) (fun h => up_old (hW9 (up_back h (by decide)))) (fun h => hf10 (up_back h (by decide))) (fun h => ⟨(hA (up_back h (by decide))).1, (hA (up_back h (by decide))).2.1, varN_B hb2 (hA (up_back h (by decide))).2.2.1, (hA (up_back h (by decide))).2.2.2⟩) (fun h => absurd (hS (up_back h (by decide))).2.1 hn) (fun h => hf13 (up_back h (by decide)))
                refine StepsL.cons (k := 8) rfl (fun listed a1 w1 hI hn hw K hK => ?_) ?_
                · cases hI with | mk p42 p43 p44 p45 p46 p47 p48 p49 p41 p50 p51 p13 p14 fa3 fn3 fc3 la3 ln3 lc3 u xs ea hb hf0 hf1 hf2 hf3 hf4 hf5 hf6 hD hf8 hW8 hf9 hW9 hf10 hA hS hf13 =>
                    obtain ⟨e49, hD2⟩ := hD (hw 7 (by decide))
                    subst e49
                    have Hhf0 := Lib.hid hf0
                    have Hhf1 := Lib.hid hf1
                    have Hhf2 := Lib.hid hf2
                    have Hhf3 := Lib.hid hf3
                    have Hhf4 := Lib.hid hf4
                    have Hhf5 := Lib.hid hf5
                    have Hhf6 := Lib.hid hf6
                    have HhD := Lib.hid hD
                    have Hhf8 := Lib.hid hf8
                    have HhW8 := Lib.hid hW8
                    have Hhf9 := Lib.hid hf9
                    have HhW9 := Lib.hid hW9
                    have Hhf10 := Lib.hid hf10
                    have HhA := Lib.hid hA
                    have HhS := Lib.hid hS
                    have Hhf13 := Lib.hid hf13
                    have Hhb := Lib.hid hb
                    have Hhw := Lib.hid hw
                    clear hf0 hf1 hf2 hf3 hf4 hf5 hf6 hD hf8 hW8 hf9 hW9 hf10 hA hS hf13 hb hw
                    rw [ea]
                    clear ea
                    simp only [Act.put, List.setIfInBounds_toArray, List.set_cons_zero, List.set_cons_succ]
                    go_simp
                    have hf0 := Hhf0.out
                    have hf1 := Hhf1.out
                    have hf2 := Hhf2.out
                    have hf3 := Hhf3.out
                    have hf4 := Hhf4.out
                    have hf5 := Hhf5.out
                    have hf6 := Hhf6.out
                    have hD := HhD.out
                    have hf8 := Hhf8.out
                    have hW8 := HhW8.out
                    have hf9 := Hhf9.out
                    have hW9 := HhW9.out
                    have hf10 := Hhf10.out
                    have hA := HhA.out
                    have hS := HhS.out
                    have hf13 := Hhf13.out
                    have hb := Hhb.out
                    have hw := Hhw.out
                    refine hK.out _ _ ?_
                    exact .mk p42 p43 p44 p45 p46 p47 p48 (.tuple #[.agg #[.int .i64 z.pc, .int .i64 (z.r 0), .int .i64 (z.r 1), .int .i64 (z.r 2), .int .i64 (z.r 3), .int .i64 (z.r 4), .int .i64 (z.r 5), .int .i64 (z.r 6), .int .i64 (z.r 7), .slice fa3 fn3 fc3, .int .i64 z.st, .int .i64 z.ft, .slice la3 ln3 lc3], .int .i64 x]) (.tuple #[.agg #[.int .i64 z.pc, .int .i64 (z.r 0), .int .i64 (z.r 1), .int .i64 (z.r 2), .int .i64 (z.r 3), .int .i64 (z.r 4), .int .i64 (z.r 5), .int .i64 (z.r 6), .int .i64 (z.r 7), .slice fa3 fn3 fc3, .int .i64 z.st, .int .i64 z.ft, .slice la3 ln3 lc3], .int .i64 x]) p50 p51 p13 p14 fa3 fn3 fc3 la3 ln3 lc3 u xs (by simp only [Act.put, List.setIfInBounds_toArray, List.set_cons_zero, List.set_cons_succ]) (hb) (fun h => hf0 (up_back h (by decide))) (fun h => hf1 (up_back h (by decide))) (fun h => hf2 (up_back h (by decide))) (fun h => hf3 (up_back h (by decide))) (fun h => hf4 (up_back h (by decide))) (fun h => hf5 (up_back h (by decide))) (fun h => hf6 (up_back h (by decide))) (fun _ => ⟨rfl, thQ_mono (fun b hq => ⟨hq.1, fun hu => hq.2 (up_back hu (by decide))⟩) hD2⟩) (fun _ => rfl) (fun _ => up_old (hw 7 (by decide))) (fun h => hf9 (up_back h (by decide))) (fun h => up_old (hW9 (up_back h (by decide)))) (fun h => hf10 (up_back h (by decide))) (fun h => hA (up_back h (by decide))) (fun h => ⟨up_old (hS (up_back h (by decide))).1, up_old (hS (up_back h (by decide))).2.1, (hS (up_back h (by decide))).2.2⟩) (fun h => hf13 (up_back h (by decide)))
                refine StepsL.cons (k := 9) rfl (fun listed a1 w1 hI hn hw K hK => ?_) ?_
                · cases hI with | mk p42 p43 p44 p45 p46 p47 p48 p49 p41 p50 p51 p13 p14 fa3 fn3 fc3 la3 ln3 lc3 u xs ea hb hf0 hf1 hf2 hf3 hf4 hf5 hf6 hD hf8 hW8 hf9 hW9 hf10 hA hS hf13 =>
                    have e_f8 := hf8 (hw 8 (by decide))
                    subst e_f8
                    have hup := hW8 (hw 8 (by decide))
                    have Hhf0 := Lib.hid hf0
                    have Hhf1 := Lib.hid hf1
                    have Hhf2 := Lib.hid hf2
                    have Hhf3 := Lib.hid hf3
                    have Hhf4 := Lib.hid hf4
                    have Hhf5 := Lib.hid hf5
                    have Hhf6 := Lib.hid hf6
                    have HhD := Lib.hid hD
                    have Hhf8 := Lib.hid hf8
                    have HhW8 := Lib.hid hW8
                    have Hhf9 := Lib.hid hf9
                    have HhW9 := Lib.hid hW9
                    have Hhf10 := Lib.hid hf10
                    have HhA := Lib.hid hA
                    have HhS := Lib.hid hS
                    have Hhf13 := Lib.hid hf13
                    have Hhb := Lib.hid hb
                    have Hhw := Lib.hid hw
                    clear hf0 hf1 hf2 hf3 hf4 hf5 hf6 hD hf8 hW8 hf9 hW9 hf10 hA hS hf13 hb hw
                    rw [ea]
                    clear ea
                    simp only [Act.put, List.setIfInBounds_toArray, List.set_cons_zero, List.set_cons_succ]
                    go_simp
                    have hf0 := Hhf0.out
                    have hf1 := Hhf1.out
                    have hf2 := Hhf2.out
                    have hf3 := Hhf3.out
                    have hf4 := Hhf4.out
                    have hf5 := Hhf5.out
                    have hf6 := Hhf6.out
                    have hD := HhD.out
                    have hf8 := Hhf8.out
                    have hW8 := HhW8.out
                    have hf9 := Hhf9.out
                    have hW9 := HhW9.out
                    have hf10 := Hhf10.out
                    have hA := HhA.out
                    have hS := HhS.out
                    have hf13 := Hhf13.out
                    have hb := Hhb.out
                    have hw := Hhw.out
                    refine hK.out _ _ ?_
                    exact .mk p42 p43 p44 p45 p46 p47 p48 p49 (.tuple #[.agg #[.int .i64 z.pc, .int .i64 (z.r 0), .int .i64 (z.r 1), .int .i64 (z.r 2), .int .i64 (z.r 3), .int .i64 (z.r 4), .int .i64 (z.r 5), .int .i64 (z.r 6), .int .i64 (z.r 7), .slice fa3 fn3 fc3, .int .i64 z.st, .int .i64 z.ft, .slice la3 ln3 lc3], .int .i64 x]) (.agg #[.int .i64 z.pc, .int .i64 (z.r 0), .int .i64 (z.r 1), .int .i64 (z.r 2), .int .i64 (z.r 3), .int .i64 (z.r 4), .int .i64 (z.r 5), .int .i64 (z.r 6), .int .i64 (z.r 7), .slice fa3 fn3 fc3, .int .i64 z.st, .int .i64 z.ft, .slice la3 ln3 lc3]) p51 p13 p14 fa3 fn3 fc3 la3 ln3 lc3 u xs (by simp only [Act.put, List.setIfInBounds_toArray, List.set_cons_zero, List.set_cons_succ]) (hb) (fun h => hf0 (up_back h (by decide))) (fun h => hf1 (up_back h (by decide))) (fun h => hf2 (up_back h (by decide))) (fun h => hf3 (up_back h (by decide))) (fun h => hf4 (up_back h (by decide))) (fun h => hf5 (up_back h (by decide))) (fun h => hf6 (up_back h (by decide))) (fun h => ⟨(hD (up_back h (by decide))).1, thQ_mono (fun b hq => ⟨hq.1, fun hu => hq.2 (up_back hu (by decide))⟩) (hD (up_back h (by decide))).2⟩) (fun _ => rfl) (fun h => up_old (hW8 (up_back h (by decide)))) (fun _ => rfl) (fun _ => up_old hup) (fun h => hf10 (up_back h (by decide))) (fun h => hA (up_back h (by decide))) (fun h => ⟨up_old (hS (up_back h (by decide))).1, up_old (hS (up_back h (by decide))).2.1, (hS (up_back h (by decide))).2.2⟩) (fun h => hf13 (up_back h (by decide)))
                refine StepsL.cons (k := 10) rfl (fun listed a1 w1 hI hn hw K hK => ?_) ?_
                · cases hI with | mk p42 p43 p44 p45 p46 p47 p48 p49 p41 p50 p51 p13 p14 fa3 fn3 fc3 la3 ln3 lc3 u xs ea hb hf0 hf1 hf2 hf3 hf4 hf5 hf6 hD hf8 hW8 hf9 hW9 hf10 hA hS hf13 =>
                    have e_f8 := hf8 (hw 8 (by decide))
                    subst e_f8
                    have Hhf0 := Lib.hid hf0
                    have Hhf1 := Lib.hid hf1
                    have Hhf2 := Lib.hid hf2
                    have Hhf3 := Lib.hid hf3
                    have Hhf4 := Lib.hid hf4
                    have Hhf5 := Lib.hid hf5
                    have Hhf6 := Lib.hid hf6
                    have HhD := Lib.hid hD
                    have Hhf8 := Lib.hid hf8
                    have HhW8 := Lib.hid hW8
                    have Hhf9 := Lib.hid hf9
                    have HhW9 := Lib.hid hW9
                    have Hhf10 := Lib.hid hf10
                    have HhA := Lib.hid hA
                    have HhS := Lib.hid hS
                    have Hhf13 := Lib.hid hf13
                    have Hhb := Lib.hid hb
                    have Hhw := Lib.hid hw
                    clear hf0 hf1 hf2 hf3 hf4 hf5 hf6 hD hf8 hW8 hf9 hW9 hf10 hA hS hf13 hb hw
                    rw [ea]
                    clear ea
                    simp only [Act.put, List.setIfInBounds_toArray, List.set_cons_zero, List.set_cons_succ]
                    go_simp
                    have hf0 := Hhf0.out
                    have hf1 := Hhf1.out
                    have hf2 := Hhf2.out
                    have hf3 := Hhf3.out
                    have hf4 := Hhf4.out
                    have hf5 := Hhf5.out
                    have hf6 := Hhf6.out
                    have hD := HhD.out
                    have hf8 := Hhf8.out
                    have hW8 := HhW8.out
                    have hf9 := Hhf9.out
                    have hW9 := HhW9.out
                    have hf10 := Hhf10.out
                    have hA := HhA.out
                    have hS := HhS.out
                    have hf13 := Hhf13.out
                    have hb := Hhb.out
                    have hw := Hhw.out
                    refine hK.out _ _ ?_
                    exact .mk p42 p43 p44 p45 p46 p47 p48 p49 (.tuple #[.agg #[.int .i64 z.pc, .int .i64 (z.r 0), .int .i64 (z.r 1), .int .i64 (z.r 2), .int .i64 (z.r 3), .int .i64 (z.r 4), .int .i64 (z.r 5), .int .i64 (z.r 6), .int .i64 (z.r 7), .slice fa3 fn3 fc3, .int .i64 z.st, .int .i64 z.ft, .slice la3 ln3 lc3], .int .i64 x]) p50 (.int .i64 x) p13 p14 fa3 fn3 fc3 la3 ln3 lc3 u xs (by simp only [Act.put, List.setIfInBounds_toArray, List.set_cons_zero, List.set_cons_succ]) (hb) (fun h => hf0 (up_back h (by decide))) (fun h => hf1 (up_back h (by decide))) (fun h => hf2 (up_back h (by decide))) (fun h => hf3 (up_back h (by decide))) (fun h => hf4 (up_back h (by decide))) (fun h => hf5 (up_back h (by decide))) (fun h => hf6 (up_back h (by decide))) (fun h => ⟨(hD (up_back h (by decide))).1, thQ_mono (fun b hq => ⟨hq.1, fun hu => hq.2 (up_back hu (by decide))⟩) (hD (up_back h (by decide))).2⟩) (fun _ => rfl) (fun h => up_old (hW8 (up_back h (by decide)))) (fun h => hf9 (up_back h (by decide))) (fun h => up_old (hW9 (up_back h (by decide)))) (fun _ => rfl) (fun h => hA (up_back h (by decide))) (fun h => ⟨up_old (hS (up_back h (by decide))).1, up_old (hS (up_back h (by decide))).2.1, (hS (up_back h (by decide))).2.2⟩) (fun h => hf13 (up_back h (by decide)))
                refine StepsL.cons (k := 11) rfl (fun listed a1 w1 hI hn hw K hK => ?_) ?_
                · cases hI with | mk p42 p43 p44 p45 p46 p47 p48 p49 p41 p50 p51 p13 p14 fa3 fn3 fc3 la3 ln3 lc3 u xs ea hb hf0 hf1 hf2 hf3 hf4 hf5 hf6 hD hf8 hW8 hf9 hW9 hf10 hA hS hf13 =>
                    have HSZ1 := hb.1.size
                    have Hhf0 := Lib.hid hf0
                    have Hhf1 := Lib.hid hf1
                    have Hhf2 := Lib.hid hf2
                    have Hhf3 := Lib.hid hf3
                    have Hhf4 := Lib.hid hf4
                    have Hhf5 := Lib.hid hf5
                    have Hhf6 := Lib.hid hf6
                    have HhD := Lib.hid hD
                    have Hhf8 := Lib.hid hf8
                    have HhW8 := Lib.hid hW8
                    have Hhf9 := Lib.hid hf9
                    have HhW9 := Lib.hid hW9
                    have Hhf10 := Lib.hid hf10
                    have HhA := Lib.hid hA
                    have HhS := Lib.hid hS
                    have Hhf13 := Lib.hid hf13
                    have Hhb := Lib.hid hb
                    have Hhw := Lib.hid hw
                    clear hf0 hf1 hf2 hf3 hf4 hf5 hf6 hD hf8 hW8 hf9 hW9 hf10 hA hS hf13 hb hw
                    rw [ea]
                    clear ea
                    simp only [Act.put, List.setIfInBounds_toArray, List.set_cons_zero, List.set_cons_succ]
                    refine step_pos (by rfl) ?_
                    go_simp
                    have hf0 := Hhf0.out
                    have hf1 := Hhf1.out
                    have hf2 := Hhf2.out
                    have hf3 := Hhf3.out
                    have hf4 := Hhf4.out
                    have hf5 := Hhf5.out
                    have hf6 := Hhf6.out
                    have hD := HhD.out
                    have hf8 := Hhf8.out
                    have hW8 := HhW8.out
                    have hf9 := Hhf9.out
                    have hW9 := HhW9.out
                    have hf10 := Hhf10.out
                    have hA := HhA.out
                    have hS := HhS.out
                    have hf13 := Hhf13.out
                    have hb := Hhb.out
                    have hw := Hhw.out
                    refine hK.out _ _ ?_
                    exact .mk p42 p43 p44 p45 p46 p47 p48 p49 p41 p50 p51 (.pointer (some ⟨w1.heap.size, 0, none⟩)) p14 fa3 fn3 fc3 la3 ln3 lc3 w1.heap.size [.int .i64 0, .int .i64 0, .int .i64 0, .int .i64 0, .int .i64 0, .int .i64 0, .int .i64 0, .int .i64 0, .int .i64 0, .slice none 0 0, .int .i64 0, .int .i64 0, .slice none 0 0] (by simp only [Act.put, List.setIfInBounds_toArray, List.set_cons_zero, List.set_cons_succ]) (⟨hb.1.alloc HSZ1 _, varN_A _ hb.2⟩) (fun h => hf0 (up_back h (by decide))) (fun h => hf1 (up_back h (by decide))) (fun h => hf2 (up_back h (by decide))) (fun h => hf3 (up_back h (by decide))) (fun h => hf4 (up_back h (by decide))) (fun h => hf5 (up_back h (by decide))) (fun h => hf6 (up_back h (by decide))) (fun h => ⟨(hD (up_back h (by decide))).1, thQ_mono (fun b hq => ⟨hq.1.1, fun _ => by have := hq.2; omega⟩) (thQ_keep (kept_A _ _) (thQ_und (hD (up_back h (by decide))).2))⟩) (fun h => hf8 (up_back h (by decide))) (fun h => up_old (hW8 (up_back h (by decide)))) (fun h => hf9 (up_back h (by decide))) (fun h => up_old (hW9 (up_back h (by decide)))) (fun h => hf10 (up_back h (by decide))) (fun _ => ⟨rfl, HSZ1, varN_new [.int .i64 0, .int .i64 0, .int .i64 0, .int .i64 0, .int .i64 0, .int .i64 0, .int .i64 0, .int .i64 0, .int .i64 0, .slice none 0 0, .int .i64 0, .int .i64 0, .slice none 0 0] _ rfl, rfl⟩) (fun h => absurd (hS (up_back h (by decide))).1 hn) (fun h => hf13 (up_back h (by decide)))
                refine StepsL.cons (k := 12) rfl (fun listed a1 w1 hI hn hw K hK => ?_) ?_
                · cases hI with | mk p42 p43 p44 p45 p46 p47 p48 p49 p41 p50 p51 p13 p14 fa3 fn3 fc3 la3 ln3 lc3 u xs ea hb hf0 hf1 hf2 hf3 hf4 hf5 hf6 hD hf8 hW8 hf9 hW9 hf10 hA hS hf13 =>
                    have e_f9 := hf9 (hw 9 (by decide))
                    subst e_f9
                    obtain ⟨e13, hu1, hV, hl13⟩ := hA (hw 11 (by decide))
                    subst e13
                    have hup7 := hW9 (hw 9 (by decide))
                    have HV9 := Lib.hid hV
                    have HVL := Lib.hid hl13
                    have HGV' := HGV.out
                    clear hV hl13
                    have Hhf0 := Lib.hid hf0
                    have Hhf1 := Lib.hid hf1
                    have Hhf2 := Lib.hid hf2
                    have Hhf3 := Lib.hid hf3
                    have Hhf4 := Lib.hid hf4
                    have Hhf5 := Lib.hid hf5
                    have Hhf6 := Lib.hid hf6
                    have HhD := Lib.hid hD
                    have Hhf8 := Lib.hid hf8
                    have HhW8 := Lib.hid hW8
                    have Hhf9 := Lib.hid hf9
                    have HhW9 := Lib.hid hW9
                    have Hhf10 := Lib.hid hf10
                    have HhA := Lib.hid hA
                    have HhS := Lib.hid hS
                    have Hhf13 := Lib.hid hf13
                    have Hhb := Lib.hid hb
                    have Hhw := Lib.hid hw
                    clear hf0 hf1 hf2 hf3 hf4 hf5 hf6 hD hf8 hW8 hf9 hW9 hf10 hA hS hf13 hb hw
                    rw [ea]
                    clear ea
                    simp only [Act.put, List.setIfInBounds_toArray, List.set_cons_zero, List.set_cons_succ]
                    refine step_pos (by rfl) ?_
                    refine wp_store_var 27 _ _ rfl u #[.int .i64 z.pc, .int .i64 (z.r 0), .int .i64 (z.r 1), .int .i64 (z.r 2), .int .i64 (z.r 3), .int .i64 (z.r 4), .int .i64 (z.r 5), .int .i64 (z.r 6), .int .i64 (z.r 7), .slice fa3 fn3 fc3, .int .i64 z.st, .int .i64 z.ft, .slice la3 ln3 lc3] rfl rfl xs HV9.out HVL.out.symm (by kernel_rfl) (one_thr _ _ _ _ _ _ _) ?_
                    intro U HU
                    have hf0 := Hhf0.out
                    have hf1 := Hhf1.out
                    have hf2 := Hhf2.out
                    have hf3 := Hhf3.out
                    have hf4 := Hhf4.out
                    have hf5 := Hhf5.out
                    have hf6 := Hhf6.out
                    have hD := HhD.out
                    have hf8 := Hhf8.out
                    have hW8 := HhW8.out
                    have hf9 := Hhf9.out
                    have hW9 := HhW9.out
                    have hf10 := Hhf10.out
                    have hA := HhA.out
                    have hS := HhS.out
                    have hf13 := Hhf13.out
                    have hb := Hhb.out
                    have hw := Hhw.out
                    refine hK.out _ _ ?_
                    exact .mk p42 p43 p44 p45 p46 p47 p48 p49 p41 (.agg #[.int .i64 z.pc, .int .i64 (z.r 0), .int .i64 (z.r 1), .int .i64 (z.r 2), .int .i64 (z.r 3), .int .i64 (z.r 4), .int .i64 (z.r 5), .int .i64 (z.r 6), .int .i64 (z.r 7), .slice fa3 fn3 fc3, .int .i64 z.st, .int .i64 z.ft, .slice la3 ln3 lc3]) p51 (.pointer (some ⟨u, 0, none⟩)) p14 fa3 fn3 fc3 la3 ln3 lc3 u [.int .i64 z.pc, .int .i64 (z.r 0), .int .i64 (z.r 1), .int .i64 (z.r 2), .int .i64 (z.r 3), .int .i64 (z.r 4), .int .i64 (z.r 5), .int .i64 (z.r 6), .int .i64 (z.r 7), .slice fa3 fn3 fc3, .int .i64 z.st, .int .i64 z.ft, .slice la3 ln3 lc3] (by simp only [Act.put, List.setIfInBounds_toArray, List.set_cons_zero, List.set_cons_succ]) (⟨below_set HU hu1 hb.1, by rw [HU.out]; exact varN_others (by omega) hb.2⟩) (fun h => hf0 (up_back h (by decide))) (fun h => hf1 (up_back h (by decide))) (fun h => hf2 (up_back h (by decide))) (fun h => hf3 (up_back h (by decide))) (fun h => hf4 (up_back h (by decide))) (fun h => hf5 (up_back h (by decide))) (fun h => hf6 (up_back h (by decide))) (fun h => ⟨(hD (up_back h (by decide))).1, thQ_mono (fun b hq => ⟨hq.1, fun hu => hq.2 (up_back hu (by decide))⟩) (thQ_keep (by rw [HU.out]; exact kept_setN (fun b hq => hq.2 (hw 11 (by decide)))) (hD (up_back h (by decide))).2)⟩) (fun h => hf8 (up_back h (by decide))) (fun h => up_old (hW8 (up_back h (by decide)))) (fun _ => rfl) (fun h => up_old (hW9 (up_back h (by decide)))) (fun h => hf10 (up_back h (by decide))) (fun _ => ⟨rfl, hu1, by rw [HU.out]; exact varN_all (xs := [.int .i64 z.pc, .int .i64 (z.r 0), .int .i64 (z.r 1), .int .i64 (z.r 2), .int .i64 (z.r 3), .int .i64 (z.r 4), .int .i64 (z.r 5), .int .i64 (z.r 6), .int .i64 (z.r 7), .slice fa3 fn3 fc3, .int .i64 z.st, .int .i64 z.ft, .slice la3 ln3 lc3]) HV9.out HVL.out.symm, rfl⟩) (fun _ => ⟨up_old (hw 11 (by decide)), up_old hup7, rfl⟩) (fun h => hf13 (up_back h (by decide)))
                refine StepsL.cons (k := 13) rfl (fun listed a1 w1 hI hn hw K hK => ?_) ?_
                · cases hI with | mk p42 p43 p44 p45 p46 p47 p48 p49 p41 p50 p51 p13 p14 fa3 fn3 fc3 la3 ln3 lc3 u xs ea hb hf0 hf1 hf2 hf3 hf4 hf5 hf6 hD hf8 hW8 hf9 hW9 hf10 hA hS hf13 =>
                    have e_f10 := hf10 (hw 10 (by decide))
                    subst e_f10
                    have Hhf0 := Lib.hid hf0
                    have Hhf1 := Lib.hid hf1
                    have Hhf2 := Lib.hid hf2
                    have Hhf3 := Lib.hid hf3
                    have Hhf4 := Lib.hid hf4
                    have Hhf5 := Lib.hid hf5
                    have Hhf6 := Lib.hid hf6
                    have HhD := Lib.hid hD
                    have Hhf8 := Lib.hid hf8
                    have HhW8 := Lib.hid hW8
                    have Hhf9 := Lib.hid hf9
                    have HhW9 := Lib.hid hW9
                    have Hhf10 := Lib.hid hf10
                    have HhA := Lib.hid hA
                    have HhS := Lib.hid hS
                    have Hhf13 := Lib.hid hf13
                    have Hhb := Lib.hid hb
                    have Hhw := Lib.hid hw
                    clear hf0 hf1 hf2 hf3 hf4 hf5 hf6 hD hf8 hW8 hf9 hW9 hf10 hA hS hf13 hb hw
                    rw [ea]
                    clear ea
                    simp only [Act.put, List.setIfInBounds_toArray, List.set_cons_zero, List.set_cons_succ]
                    go_simp
                    have hf0 := Hhf0.out
                    have hf1 := Hhf1.out
                    have hf2 := Hhf2.out
                    have hf3 := Hhf3.out
                    have hf4 := Hhf4.out
                    have hf5 := Hhf5.out
                    have hf6 := Hhf6.out
                    have hD := HhD.out
                    have hf8 := Hhf8.out
                    have hW8 := HhW8.out
                    have hf9 := Hhf9.out
                    have hW9 := HhW9.out
                    have hf10 := Hhf10.out
                    have hA := HhA.out
                    have hS := HhS.out
                    have hf13 := Hhf13.out
                    have hb := Hhb.out
                    have hw := Hhw.out
                    refine hK.out _ _ ?_
                    exact .mk p42 p43 p44 p45 p46 p47 p48 p49 p41 p50 (.int .i64 x) p13 (.int .i64 x) fa3 fn3 fc3 la3 ln3 lc3 u xs (by simp only [Act.put, List.setIfInBounds_toArray, List.set_cons_zero, List.set_cons_succ]) (hb) (fun h => hf0 (up_back h (by decide))) (fun h => hf1 (up_back h (by decide))) (fun h => hf2 (up_back h (by decide))) (fun h => hf3 (up_back h (by decide))) (fun h => hf4 (up_back h (by decide))) (fun h => hf5 (up_back h (by decide))) (fun h => hf6 (up_back h (by decide))) (fun h => ⟨(hD (up_back h (by decide))).1, thQ_mono (fun b hq => ⟨hq.1, fun hu => hq.2 (up_back hu (by decide))⟩) (hD (up_back h (by decide))).2⟩) (fun h => hf8 (up_back h (by decide))) (fun h => up_old (hW8 (up_back h (by decide)))) (fun h => hf9 (up_back h (by decide))) (fun h => up_old (hW9 (up_back h (by decide)))) (fun _ => rfl) (fun h => hA (up_back h (by decide))) (fun h => ⟨up_old (hS (up_back h (by decide))).1, up_old (hS (up_back h (by decide))).2.1, (hS (up_back h (by decide))).2.2⟩) (fun _ => rfl)
                exact StepsL.nil
              · intro listed a1 w6 hIv hu
                cases hIv with | mk p42 p43 p44 p45 p46 p47 p48 p49 p41 p50 p51 p13 p14 fa3 fn3 fc3 la3 ln3 lc3 u xs ea hb hf0 hf1 hf2 hf3 hf4 hf5 hf6 hD hf8 hW8 hf9 hW9 hf10 hA hS hf13 =>
                  obtain ⟨e13, hu1, hV, hl13⟩ := hA (hu 11)
                  obtain ⟨-, -, hxs⟩ := hS (hu 12)
                  have hD2 := (hD (hu 7)).2
                  have e14 := hf13 (hu 13)
                  subst e13 hxs e14
                  have HB6 := Lib.hid (below_from hL.out.b hb.1)
                  have HX6 := Lib.hid hb.2
                  have HR6 := Lib.hid (varN_B hb.1 HR5.out)
                  have HU6 := Lib.hid hV
                  have HUV := Lib.hid (show w3.heap.size < u from Nat.lt_of_lt_of_le HGV.out hu1)
                  have HQ6 := Lib.hid (thQ_mono (Q' := fun b => w3.heap.size < b) (fun b hq => Nat.lt_of_lt_of_le HGV.out hq.1) hD2)
                  have HFT := Lib.hid (thQ_keep (Q := fun b => w.heap.size + 2 ≤ b ∧ b ≠ w3.heap.size) (w' := w6) (kept_B hb.1) hL.out.f)
                  clear hf0 hf1 hf2 hf3 hf4 hf5 hf6 hD hf8 hW8 hf9 hW9 hf10 hA hS hf13 hb hu hV hl13 hD2 HX HF
                  rw [ea]
                  clear ea
                  simp only [Act.put, List.setIfInBounds_toArray, List.set_cons_zero, List.set_cons_succ]
                  by_cases hx0 : x = 0
                  · have hxn : (x != 0) = false := by rw [hx0]; rfl
                    have HX0 := Lib.hid hx0
                    have hk64 : (k : Int) ≤ 1000 := by have := HQ.out; omega
                    clear hx0
                    go_wp2_with (first | (refine wpList_load_mid rfl 27 _ rfl u 0 rfl [.int .i64 z.pc, .int .i64 (z.r 0), .int .i64 (z.r 1), .int .i64 (z.r 2), .int .i64 (z.r 3), .int .i64 (z.r 4), .int .i64 (z.r 5), .int .i64 (z.r 6), .int .i64 (z.r 7), .slice fa3 fn3 fc3, .int .i64 z.st, .int .i64 z.ft, .slice la3 ln3 lc3] _ (varN_range HU6.out) Try.underlying27 rfl (by kernel_rfl) ?_) | (refine wpList_store_var rfl 27 _ _ rfl w3.heap.size #[.int .i64 z.pc, .int .i64 (z.r 0), .int .i64 (z.r 1), .int .i64 (z.r 2), .int .i64 (z.r 3), .int .i64 (z.r 4), .int .i64 (z.r 5), .int .i64 (z.r 6), .int .i64 (z.r 7), .slice fa3 fn3 fc3, .int .i64 z.st, .int .i64 z.ft, .slice la3 ln3 lc3] rfl rfl _ HX6.out rfl (by kernel_rfl) (one_thr _ _ _ _ _ _ _) ?_; intro U HU))
                    go_roundw
                    case rel =>
                      refine ⟨k + 1, z, fa3, fn3, fc3, la3, ln3, lc3, by go_num, ⟨?_, ?_, ?_, ?_, ?_, hL.out.hv⟩⟩
                      · have h := ran_go hL.out.ran HKM.out HI.out (by rw [HCL.out]; exact HPN.out) (by rw [HXE.out]; exact HX0.out)
                        rw [HZ.out] at h; exact h
                      · rw [HU.out]; exact varN_all (xs := [.int .i64 z.pc, .int .i64 (z.r 0), .int .i64 (z.r 1), .int .i64 (z.r 2), .int .i64 (z.r 3), .int .i64 (z.r 4), .int .i64 (z.r 5), .int .i64 (z.r 6), .int .i64 (z.r 7), .slice fa3 fn3 fc3, .int .i64 z.st, .int .i64 z.ft, .slice la3 ln3 lc3]) HX6.out rfl
                      · rw [HU.out]; exact varN_others (by have := HS3.out; omega) HR6.out
                      · rw [HU.out]; exact thQ_mono (fun b hq => by have := HS3.out; omega) (thQ_keep (kept_setN (fun b hq => by omega)) HQ6.out)
                      · rw [HU.out]; exact below_setN (by have := HS3.out; omega) HB6.out
                    case measure => simp [intOf]; have := HKM.out; omega
                  · have hxn : (x != 0) = true := by simpa using hx0
                    have HE := Lib.hid (ran_end hL.out.ran (run_err HI.out (by rw [HXE.out]; exact hx0)))
                    clear hx0
                    go_wp2_with (first | (refine wpList_load_mid rfl 27 _ rfl w3.heap.size 0 rfl [.int .i64 T.pc, .int .i64 (T.r 0), .int .i64 (T.r 1), .int .i64 (T.r 2), .int .i64 (T.r 3), .int .i64 (T.r 4), .int .i64 (T.r 5), .int .i64 (T.r 6), .int .i64 (T.r 7), .slice fa fn fc, .int .i64 T.st, .int .i64 T.ft, .slice la ln lc] _ (varN_range HX6.out) Try.underlying27 rfl (by kernel_rfl) ?_) | (refine wpList_store_var rfl 27 _ _ rfl (w.heap.size + 1) #[.int .i64 T.pc, .int .i64 (T.r 0), .int .i64 (T.r 1), .int .i64 (T.r 2), .int .i64 (T.r 3), .int .i64 (T.r 4), .int .i64 (T.r 5), .int .i64 (T.r 6), .int .i64 (T.r 7), .slice fa fn fc, .int .i64 T.st, .int .i64 T.ft, .slice la ln lc] rfl rfl _ HR6.out rfl (by kernel_rfl) (one_thr _ _ _ _ _ _ _) ?_; intro U HU))
                    refine bp_cell_tmp2 ⟨w.heap.size + 1, 0, none⟩ rfl rfl rfl (load_set HU HR6.out rfl) ?_
                    exact runPost_mk (hrT.out.1.trans HE.out.1) (by rw [hrT.out.2, HE.out.2]) hrn.out (by rw [HU.out]; exact thQ_mono (fun b hq => by omega) (thQ_keep (Q := fun b => w.heap.size + 2 ≤ b ∧ b ≠ w3.heap.size) (kept_setN (fun b hq => by omega)) HFT.out)) (below_set HU (by omega) HB6.out)
            · have HE := Lib.hid (ran_end hL.out.ran (run_out (by rw [HCL.out]; exact hpc)))
              clear i1
              go_wp2_with (first | (refine wpList_load_mid rfl 27 _ rfl w3.heap.size 0 rfl [.int .i64 T.pc, .int .i64 (T.r 0), .int .i64 (T.r 1), .int .i64 (T.r 2), .int .i64 (T.r 3), .int .i64 (T.r 4), .int .i64 (T.r 5), .int .i64 (T.r 6), .int .i64 (T.r 7), .slice fa fn fc, .int .i64 T.st, .int .i64 T.ft, .slice la ln lc] _ (varN_range HX5.out) Try.underlying27 rfl (by kernel_rfl) ?_) | (refine wpList_store_var rfl 27 _ _ rfl (w.heap.size + 1) #[.int .i64 T.pc, .int .i64 (T.r 0), .int .i64 (T.r 1), .int .i64 (T.r 2), .int .i64 (T.r 3), .int .i64 (T.r 4), .int .i64 (T.r 5), .int .i64 (T.r 6), .int .i64 (T.r 7), .slice fa fn fc, .int .i64 T.st, .int .i64 T.ft, .slice la ln lc] rfl rfl _ HR5.out rfl (by kernel_rfl) (one_thr _ _ _ _ _ _ _) ?_; intro U HU))
              refine bp_cell_tmp2 ⟨w.heap.size + 1, 0, none⟩ rfl rfl rfl (load_set HU HR5.out rfl) ?_
              exact runPost_mk (hrT.out.1.trans HE.out.1) (by rw [hrT.out.2, HE.out.2]) hrn.out (by rw [HU.out]; exact thQ_mono (fun b hq => by omega) (thQ_keep (Q := fun b => w.heap.size + 2 ≤ b ∧ b ≠ w3.heap.size) (kept_setN (fun b hq => by omega)) hL.out.f)) (below_set HU (by omega) hL.out.b)
          · have i1 : ¬ (k : Int) < m := by omega
            have HE := Lib.hid (ran_end hL.out.ran (by rw [show m - k = 0 by omega]; rfl))
            clear hk
            go_wp2_with (first | (refine wpList_load_mid rfl 27 _ rfl w3.heap.size 0 rfl [.int .i64 T.pc, .int .i64 (T.r 0), .int .i64 (T.r 1), .int .i64 (T.r 2), .int .i64 (T.r 3), .int .i64 (T.r 4), .int .i64 (T.r 5), .int .i64 (T.r 6), .int .i64 (T.r 7), .slice fa fn fc, .int .i64 T.st, .int .i64 T.ft, .slice la ln lc] _ (varN_range HX5.out) Try.underlying27 rfl (by kernel_rfl) ?_) | (refine wpList_store_var rfl 27 _ _ rfl (w.heap.size + 1) #[.int .i64 T.pc, .int .i64 (T.r 0), .int .i64 (T.r 1), .int .i64 (T.r 2), .int .i64 (T.r 3), .int .i64 (T.r 4), .int .i64 (T.r 5), .int .i64 (T.r 6), .int .i64 (T.r 7), .slice fa fn fc, .int .i64 T.st, .int .i64 T.ft, .slice la ln lc] rfl rfl _ HR5.out rfl (by kernel_rfl) (one_thr _ _ _ _ _ _ _) ?_; intro U HU))
            refine bp_cell_tmp2 ⟨w.heap.size + 1, 0, none⟩ rfl rfl rfl (load_set HU HR5.out rfl) ?_
            exact runPost_mk (hrT.out.1.trans HE.out.1) (by rw [hrT.out.2, HE.out.2]) hrn.out (by rw [HU.out]; exact thQ_mono (fun b hq => by omega) (thQ_keep (Q := fun b => w.heap.size + 2 ≤ b ∧ b ≠ w3.heap.size) (kept_setN (fun b hq => by omega)) hL.out.f)) (below_set HU (by omega) hL.out.b)
      · have HE := Lib.hid (show rnE t self most = 9 by rw [rnE, if_neg (fun h => h.elim (fun h => by rw [hm'.out] at h; cases h) (fun h => h HQ.out)), if_pos (by simpa using hy)])
        have hy' := Lib.hid (show readyT t = false by simpa using hy)
        clear hy
        go_wp2_with (refine wpList_load_mid rfl 27 _ rfl w.heap.size 0 rfl [.int .i64 t.pc, .int .i64 (t.r 0), .int .i64 (t.r 1), .int .i64 (t.r 2), .int .i64 (t.r 3), .int .i64 (t.r 4), .int .i64 (t.r 5), .int .i64 (t.r 6), .int .i64 (t.r 7), .slice fa fn fc, .int .i64 t.st, .int .i64 t.ft, .slice la ln lc] _ (varN_range HX1.out) Try.underlying27 rfl (by kernel_rfl) ?_)
        refine (loReady_any t fa la fn fc ln lc _ HFl.out.2).mono ?_
        rintro e w2 ⟨rfl, hb2⟩
        rw [hy'.out]
        have HB1 := Lib.hid (below_from HB1.out hb2)
        have HR1 := Lib.hid (varN_B hb2 HR1.out)
        clear hb2
        go_wp2_with (refine wpList_store_var rfl 27 _ _ rfl (w.heap.size + 1) #[.int .i64 0, .int .i64 0, .int .i64 0, .int .i64 0, .int .i64 0, .int .i64 0, .int .i64 0, .int .i64 0, .int .i64 0, .slice none 0 0, .int .i64 0, .int .i64 0, .slice none 0 0] rfl rfl _ HR1.out rfl (by kernel_rfl) (one_thr zThr none none 0 0 0 0) ?_; intro U HU)
        refine bp_cell_tmp2 ⟨w.heap.size + 1, 0, none⟩ rfl rfl rfl (load_set (t := zThr) HU HR1.out rfl) ?_
        exact runPost_zero (by rw [rnT, if_neg (by rw [HE.out]; decide)]) (by rw [rnN, if_neg (by rw [HE.out]; decide)]; rfl) HE.out (below_set HU (by omega) HB1.out)
    · have HE := Lib.hid (show rnE t self most = 1 by rw [rnE, if_pos (.inr hq)])
      have HD := Lib.hid (show decide (0 ≤ most ∧ most ≤ 1000) = false from decide_eq_false hq)
      clear hq
      go_wp2_with fail
      refine (loWithin_any most 1000 _).mono ?_
      rintro e w1' ⟨rfl, h⟩
      cases h
      rw [HD.out]
      go_wp2_with (refine wpList_store_var rfl 27 _ _ rfl (w.heap.size + 1) #[.int .i64 0, .int .i64 0, .int .i64 0, .int .i64 0, .int .i64 0, .int .i64 0, .int .i64 0, .int .i64 0, .int .i64 0, .slice none 0 0, .int .i64 0, .int .i64 0, .slice none 0 0] rfl rfl _ HR1.out rfl (by kernel_rfl) (one_thr zThr none none 0 0 0 0) ?_; intro U HU)
      refine bp_cell_tmp2 ⟨w.heap.size + 1, 0, none⟩ rfl rfl rfl (load_set (t := zThr) HU HR1.out rfl) ?_
      exact runPost_zero (by rw [rnT, if_neg (by rw [HE.out]; decide)]) (by rw [rnN, if_neg (by rw [HE.out]; decide)]; rfl) HE.out (below_set HU (by omega) HB1.out)
  · have HE := Lib.hid (show rnE t self most = 1 by rw [rnE, if_pos (.inl (by simpa using hm))])
    have hm' := Lib.hid (show mayT7 t self = false by simpa using hm)
    clear hm
    go_wp2_with (refine wpList_load_mid rfl 27 _ rfl w.heap.size 0 rfl [.int .i64 t.pc, .int .i64 (t.r 0), .int .i64 (t.r 1), .int .i64 (t.r 2), .int .i64 (t.r 3), .int .i64 (t.r 4), .int .i64 (t.r 5), .int .i64 (t.r 6), .int .i64 (t.r 7), .slice fa fn fc, .int .i64 t.st, .int .i64 t.ft, .slice la ln lc] _ (varN_range HX.out) Try.underlying27 rfl (by kernel_rfl) ?_)
    refine (loMay_any t self fa la fn fc ln lc W HFW.out).mono ?_
    rintro e w1 ⟨rfl, hb1⟩
    rw [hm'.out]
    have HB1 := Lib.hid (below_from HB.out hb1)
    have HR1 := Lib.hid (varN_B hb1 HR.out)
    clear hb1 HX HR HFW HB
    go_wp2_with (refine wpList_store_var rfl 27 _ _ rfl (w.heap.size + 1) #[.int .i64 0, .int .i64 0, .int .i64 0, .int .i64 0, .int .i64 0, .int .i64 0, .int .i64 0, .int .i64 0, .int .i64 0, .slice none 0 0, .int .i64 0, .int .i64 0, .slice none 0 0] rfl rfl _ HR1.out rfl (by kernel_rfl) (one_thr zThr none none 0 0 0 0) ?_; intro U HU)
    refine bp_cell_tmp2 ⟨w.heap.size + 1, 0, none⟩ rfl rfl rfl (load_set (t := zThr) HU HR1.out rfl) ?_
    exact runPost_zero (by rw [rnT, if_neg (by rw [HE.out]; decide)]) (by rw [rnN, if_neg (by rw [HE.out]; decide)]; rfl) HE.out (below_set HU (by omega) HB1.out)
end Go.Proofs.Ytjddflnecfokaaa
